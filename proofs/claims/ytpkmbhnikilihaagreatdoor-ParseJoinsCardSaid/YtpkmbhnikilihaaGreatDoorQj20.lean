/- The walks of strconv.ParseUint at four digits to the base 16, and of token's unit. -/
import Derived.Test.YtpkmbhnikilihaaGreatDoorQj19
import Derived.Test.YtpkmbhnikilihaaGreatDoorQj10
import Derived.Laws.RangeString
import Derived.Laws.RangeAny
import Derived.Laws.Cover4
import Derived.Lib.OthersKept
namespace Go.Proofs.YtpkmbhnikilihaaGreatDoor
open Go.RowKit

/-- A world that holds the package's own variables: the table of shapes, and some error behind strconv.ErrSyntax. -/
def Laid3 (w : World) : Prop := TabAt w ∧ ∃ te pe, w.cell? ⟨2, 0, none⟩ = some (.iface te pe)
theorem lt_of_cell {w : World} {b o : Nat} {v : Value} (h : w.cell? ⟨b, o, none⟩ = some v) : b < w.heap.size := by
  rcases Nat.lt_or_ge b w.heap.size with h' | h'
  · exact h'
  · simp [World.cell?, Array.getElem?_eq_none h'] at h
theorem Laid3.below {w w' : World} (h : Laid3 w) (hb : Below w.heap.size w w') : Laid3 w' := by
  obtain ⟨ht, te, pe, hc⟩ := h
  exact ⟨ht.below hb ht.lt, te, pe, (hb.cell (p := ⟨2, 0, none⟩) (lt_of_cell hc)).trans hc⟩
theorem Laid3.alloc {w : World} (h : Laid3 w) (o : Obj) : Laid3 (w.alloc o) := h.below ((Below.refl _ _).alloc (Nat.le_refl _) o)

set_option maxRecDepth 100000 in
theorem parse_yes (t : ByteArray) (h4 : t.size = 4) (v : Int) (hv : pu 0 t.data.toList = some v) (w : World) : Calls Tryz.prog 305 #[.string t, .int .i64 16, .int .i64 16] w fun e w' => e = .returned (.tuple #[.int .u64 v, .nilIface]) ∧ Below w.heap.size w w' := by
  have hP := parse_in t h4 w
  rw [puS, hv] at hP
  have HP := Lib.hid hP
  clear hP
  go_enter Tryz.func305, Tryz.ntmps305
  go_wp2_with fail
  refine HP.out.mono ?_
  rintro e w1 ⟨rfl, hb⟩
  have HB := Lib.hid hb
  clear hb
  go_wp2_with fail
  go_ret2
  exact ⟨rfl, HB.out⟩
set_option maxRecDepth 100000 in
theorem parse_no (t : ByteArray) (h4 : t.size = 4) (hv : pu 0 t.data.toList = none) (w : World) (h3 : Laid3 w) : Calls Tryz.prog 305 #[.string t, .int .i64 16, .int .i64 16] w fun e w' => ∃ N, e = .returned (.tuple #[.int .u64 0, .iface 257 (.pointer (some ⟨N, 0, none⟩))]) ∧ Below w.heap.size w w' := by
  have hP := parse_in t h4 w
  rw [puS, hv] at hP
  have HP := Lib.hid hP
  have H3 := Lib.hid h3
  clear hP h3
  go_enter Tryz.func305, Tryz.ntmps305
  go_wp2_with fail
  refine HP.out.mono ?_
  rintro e w1 ⟨rfl, hb⟩
  obtain ⟨te, pe, hc⟩ := (H3.out.below hb).2
  have HE := Lib.hid (toError_syntax ⟨#[80, 97, 114, 115, 101, 85, 105, 110, 116]⟩ t 16 16 (.iface te pe) w1 (by omega) hc (.inr ⟨te, pe, rfl⟩))
  have HB := Lib.hid hb
  clear hb hc
  go_wp2_with fail
  refine HE.out.mono ?_
  rintro e w2 ⟨N, rfl, hb2⟩
  have HB2 := Lib.hid hb2
  clear hb2
  go_wp2_with fail
  go_ret2
  exact ⟨N, rfl, HB.out.trans (HB2.out.mono HB.out.size)⟩

def unitS (l : List UInt8) : Value := match unitAt l with | some u => .tuple #[.int .i64 u, .bool true] | none => .tuple #[.int .i64 0, .bool false]
theorem unit_pu (a b c d : UInt8) (r : List UInt8) : unitAt (92 :: 117 :: a :: b :: c :: d :: r) = pu 0 [a, b, c, d] := by
  simp only [unitAt, pu]
  cases hexB a <;> cases hexB b <;> cases hexB c <;> cases hexB d <;> simp [hexV]
theorem unit_pre {l : List UInt8} (h : pre [92, 117] l = false) : unitAt l = none := by
  cases hu : unitAt l with
  | none => rfl
  | some u =>
    obtain ⟨t, rfl⟩ := unitAt_head hu
    cases h
theorem unit_short {l : List UInt8} (h : l.length < 6) : unitAt l = none := by
  cases hu : unitAt l with
  | none => rfl
  | some u => have := unitAt_len hu; omega
theorem unit_long {l : List UInt8} (h : pre [92, 117] l = true) (hl : 6 ≤ l.length) : unitAt l = pu 0 ((l.drop 2).take 4) := by
  match l, hl with
  | x :: y :: a :: b :: c :: d :: r, _ =>
    unfold pre at h
    simp only [List.isPrefixOf_cons_cons, Bool.and_eq_true, beq_iff_eq] at h
    obtain ⟨rfl, rfl, _⟩ := h
    rw [unit_pu]
    rfl
theorem cut_no (s q : ByteArray) (w : World) (h : pre q.data.toList s.data.toList = false) : Calls Tryz.prog 304 #[.string s, .string q] w fun e w' => e = .returned (.tuple #[.string s, .bool false]) ∧ w = w' :=
  (cutPrefix_any s q w).mono fun _ _ ⟨he, hw⟩ => ⟨by
    have h' : Lib.hasPrefix s.data.toList q.data.toList = false := h
    rw [he, Lib.trimPrefix, h', if_neg (by simp), mk_of rfl], hw.symm⟩
theorem cut_yes (s q : ByteArray) (w : World) (h : pre q.data.toList s.data.toList = true) : Calls Tryz.prog 304 #[.string s, .string q] w fun e w' => e = .returned (.tuple #[.string (s.extract q.size s.size), .bool true]) ∧ w = w' :=
  (cutPrefix_any s q w).mono fun _ _ ⟨he, hw⟩ => ⟨by
    have h' : Lib.hasPrefix s.data.toList q.data.toList = true := h
    rw [he, Lib.trimPrefix, h', if_pos rfl, len_data, mk_of (ext_data s q.size)], hw.symm⟩

set_option maxRecDepth 100000 in
theorem unit_any (s : ByteArray) (w : World) (hs : s.size ≤ 9000) (h3 : Laid3 w) : Calls Tryz.prog 289 #[.string s] w fun e w' => e = .returned (unitS s.data.toList) ∧ Below w.heap.size w w' := by
  have hl := len_data s
  cases hp : pre [92, 117] s.data.toList
  · have HC := Lib.hid (cut_no s ⟨#[92, 117]⟩ w hp)
    have hr : Hid (unitS s.data.toList = .tuple #[.int .i64 0, .bool false]) := Lib.hid (by rw [unitS, unit_pre hp])
    clear hp hl h3
    go_enter Tryz.func289, Tryz.ntmps289
    go_wp2_with fail
    refine HC.out.mono ?_
    rintro e w1 ⟨rfl, rfl⟩
    go_wp2_with fail
    go_ret2
    exact ⟨by rw [hr.out]; rfl, Below.refl _ _⟩
  · have hC := cut_yes s ⟨#[92, 117]⟩ w hp
    rw [show (⟨#[92, 117]⟩ : ByteArray).size = 2 from rfl] at hC
    have h2 : 2 ≤ s.size := by have := pre_len hp; rw [hl] at this; exact this
    obtain ⟨t, ht⟩ : ∃ t, s.extract 2 s.size = t := ⟨_, rfl⟩
    have htd : t.data.toList = s.data.toList.drop 2 := by rw [← ht, ext_data]
    have hts : t.size = s.size - 2 := by rw [← ht, ext_size]
    rw [ht] at hC
    have HC := Lib.hid hC
    clear hC ht
    by_cases h6 : s.size < 6
    · have hr : Hid (unitS s.data.toList = .tuple #[.int .i64 0, .bool false]) := Lib.hid (by rw [unitS, unit_short (by omega)])
      have e4 : (t.size : Int) < 4 := by omega
      clear hp hl h3 htd
      go_enter Tryz.func289, Tryz.ntmps289
      go_wp2_with fail
      refine HC.out.mono ?_
      rintro e w1 ⟨rfl, rfl⟩
      go_wp2_with fail
      go_ret2
      exact ⟨by rw [hr.out]; rfl, Below.refl _ _⟩
    · have e4 : ¬ (t.size : Int) < 4 := by omega
      have e5 : 4 ≤ t.size := by omega
      have hu := unit_long hp (by omega)
      rw [← htd, ← ext_take t 4] at hu
      have h4s : (t.extract 0 4).size = 4 := by simp; omega
      cases hv : pu 0 (t.extract 0 4).data.toList with
      | none =>
        have hr : Hid (unitS s.data.toList = .tuple #[.int .i64 0, .bool false]) := Lib.hid (by rw [unitS, hu, hv])
        have HP := Lib.hid (parse_no (t.extract 0 4) h4s hv w h3)
        clear hp hl h3 htd hu hv h4s
        go_enter Tryz.func289, Tryz.ntmps289
        go_wp2_with fail
        refine HC.out.mono ?_
        rintro e w1 ⟨rfl, rfl⟩
        go_wp2_with fail
        refine HP.out.mono ?_
        rintro e w1 ⟨N, rfl, hb⟩
        have HB := Lib.hid hb
        clear hb
        go_wp2_with fail
        go_quiet (fail)
        go_wp2_with fail
        go_ret2
        exact ⟨by rw [hr.out]; rfl, bdraw HB.out _⟩
      | some v =>
        have hr : Hid (unitS s.data.toList = .tuple #[.int .i64 v, .bool true]) := Lib.hid (by rw [unitS, hu, hv])
        have HP := Lib.hid (parse_yes (t.extract 0 4) h4s v hv w)
        have hvb := unitAt_bd (hu.trans hv)
        obtain ⟨v0, v1⟩ := hvb
        clear hp hl h3 htd hu hv h4s
        go_enter Tryz.func289, Tryz.ntmps289
        go_wp2_with fail
        refine HC.out.mono ?_
        rintro e w1 ⟨rfl, rfl⟩
        go_wp2_with fail
        refine HP.out.mono ?_
        rintro e w1 ⟨rfl, hb⟩
        have HB := Lib.hid hb
        clear hb
        go_wp2_with fail
        go_quiet (fail)
        go_wp2_with fail
        go_ret2
        exact ⟨by rw [hr.out]; rfl, bdraw HB.out _⟩
theorem unit_at (s : ByteArray) (k : Nat) (w : World) (hs : s.size ≤ 9000) (h3 : Laid3 w) : Calls Tryz.prog 289 #[.string (s.extract k s.size)] w fun e w' => e = .returned (unitS (s.data.toList.drop k)) ∧ Below w.heap.size w w' := by
  have h := unit_any (s.extract k s.size) w (by rw [ext_size]; omega) h3
  rwa [ext_data] at h
end Go.Proofs.YtpkmbhnikilihaaGreatDoor
/- The walks of strings.IndexRune and strings.IndexAny where the text holds other than plain bytes, for two plain signs. -/
namespace Go.Proofs.YtpkmbhnikilihaaGreatDoor
open Go.RowKit

def SomeBool (e : Ending) : Prop := ∃ b, e = .returned (.bool b)
theorem valid_some (r : Int) (h0 : 0 ≤ r) (w : World) : Calls Tryz.prog 291 #[.int .i32 r] w fun e w' => SomeBool e ∧ w = w' := by
  go_enter Tryz.func291, Tryz.ntmps291
  go_wp2
  all_goals go_ret
  all_goals (refine ⟨?_, rfl⟩; exact ⟨_, rfl⟩)
theorem below_iter (w : World) (s : ByteArray) (i : Nat) : Below w.heap.size w (w.iter s i) := (Below.refl _ _).alloc (Nat.le_refl _) _
theorem enc_size {r : Int} (h : 128 ≤ r) : 2 ≤ (Utf8.encode r).size ∧ (Utf8.encode r).size ≤ 4 := by
  have hc : 128 ≤ (if Utf8.valid r then r.toNat else Utf8.runeError) := by
    split
    · omega
    · simp [Utf8.runeError]
  refine ⟨?_, encode_size_le r⟩
  unfold Utf8.encode
  simp only
  generalize (if Utf8.valid r = true then r.toNat else Utf8.runeError) = c at *
  rw [if_neg (by omega)]
  split
  · exact Nat.le_refl 2
  · split
    · exact Nat.le_succ 2
    · exact Nat.le_succ_of_le (Nat.le_succ 2)
theorem enc_one {r : Int} (h : 128 ≤ r) (h2 : (Utf8.encode r).size = 2) : 128 ≤ ((Utf8.encode r)[1]'(by omega)).toNat := by
  have hc : 128 ≤ (if Utf8.valid r then r.toNat else Utf8.runeError) := by
    split
    · omega
    · simp [Utf8.runeError]
  have e : Utf8.encode r = ⟨#[UInt8.ofNat (0xC0 + (if Utf8.valid r then r.toNat else Utf8.runeError) / 64), UInt8.ofNat (0x80 + (if Utf8.valid r then r.toNat else Utf8.runeError) % 64)]⟩ := by
    unfold Utf8.encode at h2 ⊢
    simp only at h2 ⊢
    generalize (if Utf8.valid r = true then r.toNat else Utf8.runeError) = c at *
    rw [if_neg (by omega)] at h2 ⊢
    split at h2
    · rename_i hl; rw [if_pos hl]
    · split at h2
      · exact absurd h2 (by show ¬ (3 = 2); decide)
      · exact absurd h2 (by show ¬ (4 = 2); decide)
  generalize (if Utf8.valid r = true then r.toNat else Utf8.runeError) = c at *
  simp only [e]
  show 128 ≤ (UInt8.ofNat (0x80 + c % 64)).toNat
  rw [UInt8.toNat_ofNat']
  omega

theorem indexByte_end (c : UInt8) (w : World) : Calls Tryz.prog 200 #[.string ByteArray.empty, .int .u8 (c.toNat : Int)] w fun e w' => e = .returned (.int .i64 (-1)) ∧ w' = w :=
  indexByte_any ByteArray.empty (c.toNat : Int) w

theorem slice_two (w : World) : (Instr.slice 9 (.string ⟨#[10, 13]⟩) (some (.int .i64 2)) none none).run Tryz.prog w = .ok (.string ((⟨#[10, 13]⟩ : ByteArray).extract 2 2)) w := by kernel_rfl
set_option maxRecDepth 100000 in
set_option maxHeartbeats 1000000 in
theorem indexRune_high (q : ByteArray) (hq3 : q = ⟨#[10, 13]⟩) (hq2 : q.size = 2) (hq : ∀ i (h : i < q.size), q[i].toNat < 128) (r : Int) (h0 : 128 ≤ r) (w : World) : Calls Tryz.prog 263 #[.string q, .int .i32 r] w fun e w' => e = .returned (.int .i64 (-1)) ∧ Below w.heap.size w w' := by
  have hsl : ∀ w, (Instr.slice 9 (.string q) (some (.int .i64 2)) none none).run Tryz.prog w = .ok (.string (q.extract 2 2)) w := by subst hq3; exact slice_two
  clear hq3
  have hr0 : (0 : Int) ≤ r := by omega
  have hr1 : ¬ r < 128 := by omega
  cases hE : (r == 65533)
  · have HV := Lib.hid (valid_some r hr0 w)
    have he := enc_size h0
    obtain ⟨E, hEE⟩ : ∃ E, Utf8.encode r = E := ⟨_, rfl⟩
    rw [hEE] at he
    obtain ⟨he0, he1⟩ := he
    go_enter Tryz.func263, Tryz.ntmps263
    go_wp2_with fail
    refine HV.out.mono ?_
    rintro e w1 ⟨⟨b, rfl⟩, rfl⟩
    cases b
    · go_wp2_with fail
      go_ret
      exact ⟨rfl, Below.refl _ _⟩
    · go_wp2_with fail
      go_wp2_with fail
      go_step3
      go_wp2_with fail
      refine wp_loop_once ?_
      by_cases hs2 : E.size = 2
      · have e1 : (E.size : Int) - 1 = 1 := by omega
        have h1q : 1 < q.size := by omega
        have h1E : 1 < E.size := by omega
        have hqs : (1 : Int) < (q.size : Int) := by omega
        have hes : (1 : Int) < (E.size : Int) := by omega
        have hne : ((q[1].toNat : Int) != (E[1].toNat : Int)) = true := by
          have h1 := hq 1 h1q
          have h2 : 128 ≤ E[1].toNat := by
            subst hEE
            exact enc_one h0 hs2
          simp
          omega
        go_wp2_with fail
        go_step3
        go_wp2_with fail
        go_quiet (fail)
        go_wp2_with fail
        have hw2 : IntKind.i64.wrap 2 = 2 := by decide
        go_quiet ((go_at_call 200; exact (indexByte_end E[1] _).mono fun _ _ h => ⟨h.1, _, h.2⟩))
        go_wp2_with fail
        rw [Exit.noGoto_ret]
        simp +zetaDelta only [Exit.inBlock, Exit.then, Exit.noGoto]
        refine bodyPost_ret (results_tmp rfl _ _ _) rfl ?_
        exact ⟨rfl, bdraw (Below.refl _ _) _⟩
      · have e1 : ¬ (E.size : Int) - 1 < (q.size : Int) := by omega
        go_wp2_with fail
        go_ret
        exact ⟨rfl, Below.refl _ _⟩
  · go_enter Tryz.func263, Tryz.ntmps263
    go_wp2_with fail
    go_loopg [5, 6] 2 (fun g _ _ wx => ∃ i : Nat, i + g = 2 ∧ wx = w.iter q i)
    case atStart => exact ⟨0, by omega, rfl⟩
    case round =>
      obtain ⟨i, hi, rfl⟩ := hrel
      cases gk with
      | zero =>
        obtain rfl : i = 2 := by omega
        have hnx := fun ty => run_next_end (P := Tryz.prog) w q 2 ty (by omega)
        go_wp2
        go_ret
        exact ⟨rfl, below_iter _ _ _⟩
      | succ g =>
        have hi2 : i < q.size := by omega
        have hlt := hq i hi2
        have hnx := fun ty => run_next_ascii (P := Tryz.prog) w q i ty hi2 hlt
        have hne : ((q[i].toNat : Int) == 65533) = false := by simp; omega
        go_wp2
        go_roundg g
        case measure => omega
        case rel => exact ⟨i + 1, by omega, rfl⟩
end Go.Proofs.YtpkmbhnikilihaaGreatDoor
/- The walk of strings.IndexAny for the two signs that end a line, whatever the text; and token's gap. -/
namespace Go.Proofs.YtpkmbhnikilihaaGreatDoor
open Go.RowKit

theorem decode_tail (s : ByteArray) (pos : Nat) : ∀ j, 1 ≤ j → j < (Utf8.decode s pos).2 → pos + j < s.size ∧ (s.get! (pos + j)).toNat / 64 = 2 := by
  intro j h1 h2
  have hj : j = 1 ∨ j = 2 ∨ j = 3 ∨ 4 ≤ j := by omega
  simp only [Utf8.decode] at h2
  rcases hj with rfl | rfl | rfl | hj
  all_goals
    repeat' split at h2
    all_goals simp_all
    all_goals omega
theorem get_at (s : ByteArray) (i : Nat) (h : i < s.size) : s.get! i = s[i] := by
  simp [ByteArray.get!, h]
  rfl
theorem noAny_skip {s : ByteArray} {i K : Nat} (hn : Lib.NoAny s.data.toList [10, 13] i) (hi : i < s.size) (h128 : 128 ≤ (s[i]'hi).toNat) (hK : ∀ j, 1 ≤ j → j < K → i + j < s.size ∧ (s.get! (i + j)).toNat / 64 = 2) : Lib.NoAny s.data.toList [10, 13] (i + K) := by
  intro j b hj hb
  by_cases h1 : j < i
  · exact hn j b h1 hb
  · have hbig : 128 ≤ b.toNat := by
      have hjl : j < s.data.toList.length := (List.getElem?_eq_some_iff.1 hb).1
      rw [len_data] at hjl
      have hb' : s[j] = b := by
        have := (List.getElem?_eq_some_iff.1 hb).2
        rw [← this]
        rfl
      by_cases h2 : j = i
      · subst h2; rw [← hb']; exact h128
      · have := (hK (j - i) (by omega) (by omega)).2
        rw [show i + (j - i) = j by omega, get_at s j hjl, hb'] at this
        omega
    have h10 : b ≠ 10 := fun e => by subst e; exact absurd hbig (by decide)
    have h13 : b ≠ 13 := fun e => by subst e; exact absurd hbig (by decide)
    simp [h10, h13]
theorem below_iterAt {B : Nat} {a w : World} (h : Below B a w) {k : Nat} (hk : B ≤ k) (s : ByteArray) (p : Nat) : Below B a (w.iterAt k s p) := by
  refine ⟨h.os, h.tape, h.output, by simpa [World.iterAt] using h.size, fun j hj => ?_⟩
  rw [← h.block j hj]
  show (w.heap.setIfInBounds k (.stringIter s p))[j]? = w.heap[j]?
  rw [Array.getElem?_setIfInBounds_ne (by omega)]

theorem short_set (n : Nat) (h8 : (n : Int) ≤ 8) (w : World) : Calls Tryz.prog 264 #[.int .i64 (n : Int)] w fun e w' => e = .returned (.bool false) ∧ w = w' := by
  go_enter Tryz.func264, Tryz.ntmps264
  go_wp2
  go_ret
  exact ⟨ret_bool (by simp; omega), rfl⟩

set_option maxRecDepth 100000 in
set_option maxHeartbeats 1000000 in
theorem indexAny_short (s : ByteArray) (w : World) (h8 : s.size ≤ 8) : Calls Tryz.prog 231 #[.string s, .string ⟨#[10, 13]⟩] w fun e w' => e = .returned (.int .i64 (Lib.indexAny s.data.toList [10, 13])) ∧ Below w.heap.size w w' := by
  have hl := len_data s
  have h8z : (s.size : Int) ≤ 8 := by omega
  have HLEN := Lib.hid hl
  clear hl
  go_enter Tryz.func231, Tryz.ntmps231
  go_wp2_with fail
  refine (short_set s.size h8z _).mono ?_
  rintro e w' ⟨rfl, rfl⟩
  go_wp2_with fail
  go_loopg [9, 10] s.size (fun g _ _ wx => ∃ i : Nat, i + g = s.size ∧ wx.heap[w.heap.size]? = some (.stringIter s i) ∧ Below w.heap.size w wx ∧ Aside (Lib.NoAny s.data.toList [10, 13] i))
  case atStart => exact ⟨0, by omega, World.iter_heap _ _ _, below_iter _ _ _, Aside.intro (Lib.NoAny.zero _ _)⟩
  case round =>
    obtain ⟨i, hig, hit, hb, HN⟩ := hrel
    have HB := Lib.hid hb
    have hbs := hb.size
    clear hb
    by_cases hi : i < s.size
    · have HIT := Lib.hid hit
      have hlt : w.heap.size < wr.heap.size := (Array.getElem?_eq_some_iff.1 hit).1
      by_cases ha : (s[i]'hi).toNat < 128
      · have hnx := fun ty => Lib.run_next_ascii_at (P := Tryz.prog) wr w.heap.size s i ty hit hi ha
        obtain ⟨x, hx⟩ : ∃ x : UInt8, s[i]'hi = x := ⟨_, rfl⟩
        have hxl : s.data.toList[i]? = some x := by rw [← hx]; exact Lib.data_getElem? s i hi
        rw [hx] at hnx ha
        have hI := indexRune_ascii ⟨#[10, 13]⟩ (x.toNat : Int) (wr.iterAt w.heap.size s (i + 1)) (by omega) (by omega)
        rw [show ((x.toNat : Int)).toNat.toUInt8 = x by simp] at hI
        have hcon := Lib.contains_iff_indexByte [10, 13] x
        obtain ⟨r, hr⟩ : ∃ r, Lib.indexByte (⟨#[10, 13]⟩ : ByteArray).data.toList x = r := ⟨_, rfl⟩
        rw [hr] at hI
        change Lib.indexByte [10, 13] x = r at hr
        rw [hr] at hcon
        have HI := Lib.hid hI
        have Hxl := Lib.hid hxl
        clear hit hx hxl hI hr
        cases hin : ([10, 13] : List UInt8).contains x
        · have hneg : ¬ (0 : Int) ≤ r := by rw [hin] at hcon; exact of_decide_eq_false hcon.symm
          have HN2 := Lib.hid (HN.out.succ Hxl.out hin)
          clear hcon hin HN
          go_wp2_with fail
          refine HI.out.mono ?_
          rintro e w2 ⟨rfl, rfl⟩
          go_wp2_with fail
          go_roundg (gk - 1)
          case measure => omega
          case rel => exact ⟨i + 1, by omega, Lib.iterAt_heap _ _ _ _ _ HIT.out, below_iterAt HB.out (Nat.le_refl _) _ _, Aside.intro HN2.out⟩
        · have hpos : (0 : Int) ≤ r := by rw [hin] at hcon; exact of_decide_eq_true hcon.symm
          have hr : Hid (Lib.indexAny s.data.toList [10, 13] = i) := Lib.hid (Lib.indexAny_hit HN.out Hxl.out hin)
          clear hcon hin HN
          go_wp2_with fail
          refine HI.out.mono ?_
          rintro e w2 ⟨rfl, rfl⟩
          go_wp2_with fail
          go_ret
          exact ⟨ret_i hr.out.symm, below_iterAt HB.out (Nat.le_refl _) _ _⟩
      · have hd := decode_high s i hi (by omega)
        have hnx := fun ty => Lib.run_next_any_at (P := Tryz.prog) wr w.heap.size s i ty hit hi
        have HN2 := Lib.hid (noAny_skip HN.out hi (by omega) (decode_tail s i))
        have hw4 : i + (Utf8.decode s i).2 ≤ s.size := by
          by_cases h1 : (Utf8.decode s i).2 = 1
          · omega
          · have := (decode_tail s i ((Utf8.decode s i).2 - 1) (by omega) (by omega)).1
            omega
        obtain ⟨c, hc⟩ : ∃ c, (Utf8.decode s i).1 = c := ⟨_, rfl⟩
        obtain ⟨K, hK⟩ : ∃ K, (Utf8.decode s i).2 = K := ⟨_, rfl⟩
        rw [hc] at hd hnx
        rw [hK] at hd hnx HN2 hw4
        have HI := Lib.hid (indexRune_high ⟨#[10, 13]⟩ rfl rfl (by decide) (c : Int) (by omega) (wr.iterAt w.heap.size s (i + K)))
        clear hit hc hK HN
        go_wp2_with fail
        refine HI.out.mono ?_
        rintro e w2 ⟨rfl, hb2⟩
        have HBb := Lib.hid hb2
        clear hb2
        go_wp2_with fail
        go_roundg (gk - K)
        case measure => omega
        case rel => exact ⟨i + K, by omega, (HBb.out.block w.heap.size (by simpa [World.iterAt] using hlt)).trans (Lib.iterAt_heap _ _ _ _ _ HIT.out), (below_iterAt HB.out (Nat.le_refl _) s (i + K)).trans (HBb.out.mono (by simpa [World.iterAt] using hbs)), Aside.intro HN2.out⟩
    · obtain rfl : i = s.size := by omega
      have hnx := fun ty => Lib.run_next_end_at (P := Tryz.prog) wr w.heap.size s s.size ty hit hi
      have hr : Hid (Lib.indexAny s.data.toList [10, 13] = -1) := Lib.hid (Lib.indexAny_none (by rw [HLEN.out]; exact HN.out))
      clear hit HN
      go_wp2_with fail
      go_ret
      exact ⟨ret_i hr.out.symm, HB.out⟩
end Go.Proofs.YtpkmbhnikilihaaGreatDoor
