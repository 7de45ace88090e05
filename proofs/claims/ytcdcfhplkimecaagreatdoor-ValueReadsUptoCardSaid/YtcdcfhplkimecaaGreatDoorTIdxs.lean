/- The walks of strings.IndexRune and strings.IndexAny where the text holds other than plain bytes, for two plain signs. -/
import Derived.Test.YtcdcfhplkimecaaGreatDoorTUnit
import Derived.Laws.RangeString
import Derived.Laws.RangeAny
import Derived.Laws.Cover4
import Derived.Test.YtcdcfhplkimecaaGreatDoorTNum2
import Derived.Lib.OthersKept
import Derived.Laws.MakeOwn
namespace Go.Proofs.YtcdcfhplkimecaaGreatDoor
open Go.RowKit

def SomeBool (e : Ending) : Prop := ∃ b, e = .returned (.bool b)
theorem valid_some (r : Int) (h0 : 0 ≤ r) (w : World) : Calls Tryz.prog 85 #[.int .i32 r] w fun e w' => SomeBool e ∧ w = w' := by
  go_enter Tryz.func85, Tryz.ntmps85
  go_wp2
  all_goals go_ret
  all_goals (refine ⟨?_, rfl⟩; exact ⟨_, rfl⟩)
theorem below_iter (w : World) (s : ByteArray) (i : Nat) : Below w.heap.size w (w.iter s i) := (Below.refl _ _).alloc (Nat.le_refl _) _
theorem enc_size {r : Int} (h : 128 ≤ r) : 2 ≤ (Utf8.encode r).size ∧ (Utf8.encode r).size ≤ 4 := by
  have hc : 128 ≤ (if Utf8.valid r then r.toNat else Utf8.runeError) := by
    split
    · omega
    · simp [Utf8.runeError]
  refine ⟨?_, encode_size_le r⟩
  unfold Utf8.encode
  simp only
  generalize (if Utf8.valid r = true then r.toNat else Utf8.runeError) = c at *
  rw [if_neg (by omega)]
  split
  · exact Nat.le_refl 2
  · split
    · exact Nat.le_succ 2
    · exact Nat.le_succ_of_le (Nat.le_succ 2)
theorem enc_one {r : Int} (h : 128 ≤ r) (h2 : (Utf8.encode r).size = 2) : 128 ≤ ((Utf8.encode r)[1]'(by omega)).toNat := by
  have hc : 128 ≤ (if Utf8.valid r then r.toNat else Utf8.runeError) := by
    split
    · omega
    · simp [Utf8.runeError]
  have e : Utf8.encode r = ⟨#[UInt8.ofNat (0xC0 + (if Utf8.valid r then r.toNat else Utf8.runeError) / 64), UInt8.ofNat (0x80 + (if Utf8.valid r then r.toNat else Utf8.runeError) % 64)]⟩ := by
    unfold Utf8.encode at h2 ⊢
    simp only at h2 ⊢
    generalize (if Utf8.valid r = true then r.toNat else Utf8.runeError) = c at *
    rw [if_neg (by omega)] at h2 ⊢
    split at h2
    · rename_i hl; rw [if_pos hl]
    · split at h2
      · exact absurd h2 (by show ¬ (3 = 2); decide)
      · exact absurd h2 (by show ¬ (4 = 2); decide)
  generalize (if Utf8.valid r = true then r.toNat else Utf8.runeError) = c at *
  simp only [e]
  show 128 ≤ (UInt8.ofNat (0x80 + c % 64)).toNat
  rw [UInt8.toNat_ofNat']
  omega

theorem indexByte_end (c : UInt8) (w : World) : Calls Tryz.prog 40 #[.string ByteArray.empty, .int .u8 (c.toNat : Int)] w fun e w' => e = .returned (.int .i64 (-1)) ∧ w' = w :=
  indexByte_any ByteArray.empty (c.toNat : Int) w

theorem slice_two (w : World) : (Instr.slice 9 (.string ⟨#[10, 13]⟩) (some (.int .i64 2)) none none).run Tryz.prog w = .ok (.string ((⟨#[10, 13]⟩ : ByteArray).extract 2 2)) w := by kernel_rfl
set_option maxRecDepth 100000 in
set_option maxHeartbeats 1000000 in
theorem indexRune_high (q : ByteArray) (hq3 : q = ⟨#[10, 13]⟩) (hq2 : q.size = 2) (hq : ∀ i (h : i < q.size), q[i].toNat < 128) (r : Int) (h0 : 128 ≤ r) (w : World) : Calls Tryz.prog 65 #[.string q, .int .i32 r] w fun e w' => e = .returned (.int .i64 (-1)) ∧ Below w.heap.size w w' := by
  have hsl : ∀ w, (Instr.slice 9 (.string q) (some (.int .i64 2)) none none).run Tryz.prog w = .ok (.string (q.extract 2 2)) w := by subst hq3; exact slice_two
  clear hq3
  have hr0 : (0 : Int) ≤ r := by omega
  have hr1 : ¬ r < 128 := by omega
  cases hE : (r == 65533)
  · have HV := Lib.hid (valid_some r hr0 w)
    have he := enc_size h0
    obtain ⟨E, hEE⟩ : ∃ E, Utf8.encode r = E := ⟨_, rfl⟩
    rw [hEE] at he
    obtain ⟨he0, he1⟩ := he
    go_enter Tryz.func65, Tryz.ntmps65
    go_wp2_with fail
    refine HV.out.mono ?_
    rintro e w1 ⟨⟨b, rfl⟩, rfl⟩
    cases b
    · go_wp2_with fail
      go_ret
      exact ⟨rfl, Below.refl _ _⟩
    · go_wp2_with fail
      go_wp2_with fail
      go_step3
      go_wp2_with fail
      refine wp_loop_once ?_
      by_cases hs2 : E.size = 2
      · have e1 : (E.size : Int) - 1 = 1 := by omega
        have h1q : 1 < q.size := by omega
        have h1E : 1 < E.size := by omega
        have hqs : (1 : Int) < (q.size : Int) := by omega
        have hes : (1 : Int) < (E.size : Int) := by omega
        have hne : ((q[1].toNat : Int) != (E[1].toNat : Int)) = true := by
          have h1 := hq 1 h1q
          have h2 : 128 ≤ E[1].toNat := by
            subst hEE
            exact enc_one h0 hs2
          simp
          omega
        go_wp2_with fail
        go_step3
        go_wp2_with fail
        go_quiet (fail)
        go_wp2_with fail
        have hw2 : IntKind.i64.wrap 2 = 2 := by decide
        go_quiet ((go_at_call 40; exact (indexByte_end E[1] _).mono fun _ _ h => ⟨h.1, _, h.2⟩))
        go_wp2_with fail
        rw [Exit.noGoto_ret]
        simp +zetaDelta only [Exit.inBlock, Exit.then, Exit.noGoto]
        refine bodyPost_ret (results_tmp rfl _ _ _) rfl ?_
        exact ⟨rfl, bdraw (Below.refl _ _) _⟩
      · have e1 : ¬ (E.size : Int) - 1 < (q.size : Int) := by omega
        go_wp2_with fail
        go_ret
        exact ⟨rfl, Below.refl _ _⟩
  · go_enter Tryz.func65, Tryz.ntmps65
    go_wp2_with fail
    go_loopg [5, 6] 2 (fun g _ _ wx => ∃ i : Nat, i + g = 2 ∧ wx = w.iter q i)
    case atStart => exact ⟨0, by omega, rfl⟩
    case round =>
      obtain ⟨i, hi, rfl⟩ := hrel
      cases gk with
      | zero =>
        obtain rfl : i = 2 := by omega
        have hnx := fun ty => run_next_end (P := Tryz.prog) w q 2 ty (by omega)
        go_wp2
        go_ret
        exact ⟨rfl, below_iter _ _ _⟩
      | succ g =>
        have hi2 : i < q.size := by omega
        have hlt := hq i hi2
        have hnx := fun ty => run_next_ascii (P := Tryz.prog) w q i ty hi2 hlt
        have hne : ((q[i].toNat : Int) == 65533) = false := by simp; omega
        go_wp2
        go_roundg g
        case measure => omega
        case rel => exact ⟨i + 1, by omega, rfl⟩
end Go.Proofs.YtcdcfhplkimecaaGreatDoor
/- The walk of strings.IndexAny for the two signs that end a line, whatever the text; and token's gap. -/
namespace Go.Proofs.YtcdcfhplkimecaaGreatDoor
open Go.RowKit

theorem decode_tail (s : ByteArray) (pos : Nat) : ∀ j, 1 ≤ j → j < (Utf8.decode s pos).2 → pos + j < s.size ∧ (s.get! (pos + j)).toNat / 64 = 2 := by
  intro j h1 h2
  have hj : j = 1 ∨ j = 2 ∨ j = 3 ∨ 4 ≤ j := by omega
  simp only [Utf8.decode] at h2
  rcases hj with rfl | rfl | rfl | hj
  all_goals
    repeat' split at h2
    all_goals simp_all
    all_goals omega
theorem get_at (s : ByteArray) (i : Nat) (h : i < s.size) : s.get! i = s[i] := by
  simp [ByteArray.get!, h]
  rfl
theorem noAny_skip {s : ByteArray} {i K : Nat} (hn : Lib.NoAny s.data.toList [10, 13] i) (hi : i < s.size) (h128 : 128 ≤ (s[i]'hi).toNat) (hK : ∀ j, 1 ≤ j → j < K → i + j < s.size ∧ (s.get! (i + j)).toNat / 64 = 2) : Lib.NoAny s.data.toList [10, 13] (i + K) := by
  intro j b hj hb
  by_cases h1 : j < i
  · exact hn j b h1 hb
  · have hbig : 128 ≤ b.toNat := by
      have hjl : j < s.data.toList.length := (List.getElem?_eq_some_iff.1 hb).1
      rw [len_data] at hjl
      have hb' : s[j] = b := by
        have := (List.getElem?_eq_some_iff.1 hb).2
        rw [← this]
        rfl
      by_cases h2 : j = i
      · subst h2; rw [← hb']; exact h128
      · have := (hK (j - i) (by omega) (by omega)).2
        rw [show i + (j - i) = j by omega, get_at s j hjl, hb'] at this
        omega
    have h10 : b ≠ 10 := fun e => by subst e; exact absurd hbig (by decide)
    have h13 : b ≠ 13 := fun e => by subst e; exact absurd hbig (by decide)
    simp [h10, h13]
theorem below_iterAt {B : Nat} {a w : World} (h : Below B a w) {k : Nat} (hk : B ≤ k) (s : ByteArray) (p : Nat) : Below B a (w.iterAt k s p) := by
  refine ⟨h.os, h.tape, h.output, by simpa [World.iterAt] using h.size, fun j hj => ?_⟩
  rw [← h.block j hj]
  show (w.heap.setIfInBounds k (.stringIter s p))[j]? = w.heap[j]?
  rw [Array.getElem?_setIfInBounds_ne (by omega)]

theorem short_set (n : Nat) (h8 : (n : Int) ≤ 8) (w : World) : Calls Tryz.prog 66 #[.int .i64 (n : Int)] w fun e w' => e = .returned (.bool false) ∧ w = w' := by
  go_enter Tryz.func66, Tryz.ntmps66
  go_wp2
  go_ret
  exact ⟨ret_bool (by simp; omega), rfl⟩

set_option maxRecDepth 100000 in
set_option maxHeartbeats 1000000 in
theorem indexAny_short (s : ByteArray) (w : World) (h8 : s.size ≤ 8) : Calls Tryz.prog 49 #[.string s, .string ⟨#[10, 13]⟩] w fun e w' => e = .returned (.int .i64 (Lib.indexAny s.data.toList [10, 13])) ∧ Below w.heap.size w w' := by
  have hl := len_data s
  have h8z : (s.size : Int) ≤ 8 := by omega
  have HLEN := Lib.hid hl
  clear hl
  go_enter Tryz.func49, Tryz.ntmps49
  go_wp2_with fail
  refine (short_set s.size h8z _).mono ?_
  rintro e w' ⟨rfl, rfl⟩
  go_wp2_with fail
  go_loopg [9, 10] s.size (fun g _ _ wx => ∃ i : Nat, i + g = s.size ∧ wx.heap[w.heap.size]? = some (.stringIter s i) ∧ Below w.heap.size w wx ∧ Aside (Lib.NoAny s.data.toList [10, 13] i))
  case atStart => exact ⟨0, by omega, World.iter_heap _ _ _, below_iter _ _ _, Aside.intro (Lib.NoAny.zero _ _)⟩
  case round =>
    obtain ⟨i, hig, hit, hb, HN⟩ := hrel
    have HB := Lib.hid hb
    have hbs := hb.size
    clear hb
    by_cases hi : i < s.size
    · have HIT := Lib.hid hit
      have hlt : w.heap.size < wr.heap.size := (Array.getElem?_eq_some_iff.1 hit).1
      by_cases ha : (s[i]'hi).toNat < 128
      · have hnx := fun ty => Lib.run_next_ascii_at (P := Tryz.prog) wr w.heap.size s i ty hit hi ha
        obtain ⟨x, hx⟩ : ∃ x : UInt8, s[i]'hi = x := ⟨_, rfl⟩
        have hxl : s.data.toList[i]? = some x := by rw [← hx]; exact Lib.data_getElem? s i hi
        rw [hx] at hnx ha
        have hI := indexRune_ascii ⟨#[10, 13]⟩ (x.toNat : Int) (wr.iterAt w.heap.size s (i + 1)) (by omega) (by omega)
        rw [show ((x.toNat : Int)).toNat.toUInt8 = x by simp] at hI
        have hcon := Lib.contains_iff_indexByte [10, 13] x
        obtain ⟨r, hr⟩ : ∃ r, Lib.indexByte (⟨#[10, 13]⟩ : ByteArray).data.toList x = r := ⟨_, rfl⟩
        rw [hr] at hI
        change Lib.indexByte [10, 13] x = r at hr
        rw [hr] at hcon
        have HI := Lib.hid hI
        have Hxl := Lib.hid hxl
        clear hit hx hxl hI hr
        cases hin : ([10, 13] : List UInt8).contains x
        · have hneg : ¬ (0 : Int) ≤ r := by rw [hin] at hcon; exact of_decide_eq_false hcon.symm
          have HN2 := Lib.hid (HN.out.succ Hxl.out hin)
          clear hcon hin HN
          go_wp2_with fail
          refine HI.out.mono ?_
          rintro e w2 ⟨rfl, rfl⟩
          go_wp2_with fail
          go_roundg (gk - 1)
          case measure => omega
          case rel => exact ⟨i + 1, by omega, Lib.iterAt_heap _ _ _ _ _ HIT.out, below_iterAt HB.out (Nat.le_refl _) _ _, Aside.intro HN2.out⟩
        · have hpos : (0 : Int) ≤ r := by rw [hin] at hcon; exact of_decide_eq_true hcon.symm
          have hr : Hid (Lib.indexAny s.data.toList [10, 13] = i) := Lib.hid (Lib.indexAny_hit HN.out Hxl.out hin)
          clear hcon hin HN
          go_wp2_with fail
          refine HI.out.mono ?_
          rintro e w2 ⟨rfl, rfl⟩
          go_wp2_with fail
          go_ret
          exact ⟨ret_i hr.out.symm, below_iterAt HB.out (Nat.le_refl _) _ _⟩
      · have hd := decode_high s i hi (by omega)
        have hnx := fun ty => Lib.run_next_any_at (P := Tryz.prog) wr w.heap.size s i ty hit hi
        have HN2 := Lib.hid (noAny_skip HN.out hi (by omega) (decode_tail s i))
        have hw4 : i + (Utf8.decode s i).2 ≤ s.size := by
          by_cases h1 : (Utf8.decode s i).2 = 1
          · omega
          · have := (decode_tail s i ((Utf8.decode s i).2 - 1) (by omega) (by omega)).1
            omega
        obtain ⟨c, hc⟩ : ∃ c, (Utf8.decode s i).1 = c := ⟨_, rfl⟩
        obtain ⟨K, hK⟩ : ∃ K, (Utf8.decode s i).2 = K := ⟨_, rfl⟩
        rw [hc] at hd hnx
        rw [hK] at hd hnx HN2 hw4
        have HI := Lib.hid (indexRune_high ⟨#[10, 13]⟩ rfl rfl (by decide) (c : Int) (by omega) (wr.iterAt w.heap.size s (i + K)))
        clear hit hc hK HN
        go_wp2_with fail
        refine HI.out.mono ?_
        rintro e w2 ⟨rfl, hb2⟩
        have HBb := Lib.hid hb2
        clear hb2
        go_wp2_with fail
        go_roundg (gk - K)
        case measure => omega
        case rel => exact ⟨i + K, by omega, (HBb.out.block w.heap.size (by simpa [World.iterAt] using hlt)).trans (Lib.iterAt_heap _ _ _ _ _ HIT.out), (below_iterAt HB.out (Nat.le_refl _) s (i + K)).trans (HBb.out.mono (by simpa [World.iterAt] using hbs)), Aside.intro HN2.out⟩
    · obtain rfl : i = s.size := by omega
      have hnx := fun ty => Lib.run_next_end_at (P := Tryz.prog) wr w.heap.size s s.size ty hit hi
      have hr : Hid (Lib.indexAny s.data.toList [10, 13] = -1) := Lib.hid (Lib.indexAny_none (by rw [HLEN.out]; exact HN.out))
      clear hit HN
      go_wp2_with fail
      go_ret
      exact ⟨ret_i hr.out.symm, HB.out⟩
end Go.Proofs.YtcdcfhplkimecaaGreatDoor
/- The walk of token's gap. -/
namespace Go.Proofs.YtcdcfhplkimecaaGreatDoor
open Go.RowKit

theorem indexAny_ends (s : ByteArray) (w : World) (hs : s.size ≤ 9000) : Calls Tryz.prog 49 #[.string s, .string ⟨#[10, 13]⟩] w fun e w' => e = .returned (.int .i64 (Lib.indexAny s.data.toList [10, 13])) ∧ Below w.heap.size w w' := by
  by_cases h8 : s.size ≤ 8
  · exact indexAny_short s w h8
  · exact indexAny_long s ⟨#[10, 13]⟩ w (by decide) (by omega) (by omega) (by decide) (fun j b hb => by
      match j, hb with
      | 0, hb => cases hb; decide
      | 1, hb => cases hb; decide
      | j + 2, hb => simp at hb)
theorem idx_eol : ∀ l : List UInt8, Lib.indexAny l [10, 13] = if (l.takeWhile noEol).length < l.length then ((l.takeWhile noEol).length : Int) else -1 := by
  intro l
  induction l with
  | nil => rfl
  | cons b t ih =>
    have hb : ([10, 13] : List UInt8).contains b = !noEol b := by unfold noEol; cases h10 : (b == 10) <;> cases h13 : (b == 13) <;> simp_all
    rw [Lib.indexAny, hb, List.takeWhile_cons]
    cases hn : noEol b
    · simp
    · have := takeWhile_le noEol t
      simp only [Bool.not_true, Bool.false_eq_true, if_false, if_true, List.length_cons]
      rw [ih]
      by_cases h : (t.takeWhile noEol).length < t.length
      · rw [if_pos h, if_neg (show ¬ (((t.takeWhile noEol).length : Int) == -1) = true by simp), if_pos (show (t.takeWhile noEol).length + 1 < t.length + 1 by omega)]
        omega
      · rw [if_neg h, if_pos (show ((-1 : Int) == -1) = true by rfl), if_neg (show ¬ (t.takeWhile noEol).length + 1 < t.length + 1 by omega)]
theorem gapL_at (s : ByteArray) (h : 0 < s.size) (hp : pre [239, 187, 191] s.data.toList = false) : gapL s.data.toList = if isGap s[0] then 1 else if s[0] == 35 then 1 + ((s.data.toList.drop 1).takeWhile noEol).length else 0 := by
  rw [cons_at s h] at hp
  conv => lhs; rw [cons_at s h]
  simp only [gapL, hp]
  rfl

set_option maxRecDepth 100000 in
set_option maxHeartbeats 1000000 in
theorem gap_any (s : ByteArray) (w : World) (hs : s.size ≤ 9000) : Calls Tryz.prog 24 #[.string s] w fun e w' => e = .returned (.int .i64 (gapL s.data.toList)) ∧ Below w.heap.size w w' := by
  cases hp : pre [239, 187, 191] s.data.toList
  · have HP := Lib.hid (hasP s ⟨#[239, 187, 191]⟩ w false hp)
    rcases Nat.eq_zero_or_pos s.size with h0 | h0
    · have hr : Hid (gapL s.data.toList = 0) := Lib.hid (by rw [nil_of_size h0]; rfl)
      have he := empty_yes h0
      clear hp
      go_enter Tryz.func24, Tryz.ntmps24
      go_wp2_with fail
      refine HP.out.mono ?_
      rintro e w1 ⟨rfl, rfl⟩
      go_wp2_with fail
      go_ret
      exact ⟨by rw [hr.out]; rfl, Below.refl _ _⟩
    have he := empty_no h0
    have hg := gapL_at s h0 hp
    have hI := indexAny_ends s w hs
    rw [idx_eol, cons_at s h0] at hI
    have h0' : (0 : Int) < (s.size : Int) := by omega
    clear hp
    cases c9 : (s[0] == 9)
    · obtain ⟨a1, a2⟩ := beqF c9 9 rfl
      cases c10 : (s[0] == 10)
      · obtain ⟨b1, b2⟩ := beqF c10 10 rfl
        cases c13 : (s[0] == 13)
        · obtain ⟨c1, c2⟩ := beqF c13 13 rfl
          cases c32 : (s[0] == 32)
          · obtain ⟨d1, d2⟩ := beqF c32 32 rfl
            cases c44 : (s[0] == 44)
            · obtain ⟨f1, f2⟩ := beqF c44 44 rfl
              have hgn : isGap s[0] = false := by simp [isGap, c9, c10, c13, c32, c44]
              cases c35 : (s[0] == 35)
              · obtain ⟨g1, g2⟩ := beqF c35 35 rfl
                have hr : Hid (gapL s.data.toList = 0) := Lib.hid (by rw [hg, hgn, c35]; rfl)
                clear hg hI hgn c9 c10 c13 c32 c44 c35
                go_enter Tryz.func24, Tryz.ntmps24
                go_wp2_with fail
                refine HP.out.mono ?_
                rintro e w1 ⟨rfl, rfl⟩
                go_wp2_with fail
                go_ret
                exact ⟨by rw [hr.out]; rfl, Below.refl _ _⟩
              · obtain ⟨g1, g2⟩ := beqT c35 35 rfl
                have h35 : s[0] = 35 := by simpa using c35
                rw [hgn, c35] at hg
                simp only [Bool.false_eq_true, if_false, if_true] at hg
                have htl := takeWhile_le noEol (s.data.toList.drop 1)
                rw [List.length_drop, len_data] at htl
                rw [List.takeWhile_cons, show noEol s[0] = true by rw [h35]; rfl, if_pos rfl, List.length_cons, List.length_cons, List.length_drop, len_data] at hI
                obtain ⟨m, hm⟩ : ∃ m, ((s.data.toList.drop 1).takeWhile noEol).length = m := ⟨_, rfl⟩
                rw [hm] at hI hg htl
                have hr := Lib.hid hg
                clear hg hgn c9 c10 c13 c32 c44 c35 hm h35
                by_cases hlt : m + 1 < s.size - 1 + 1
                · rw [if_pos hlt] at hI
                  have HI := Lib.hid hI
                  clear hI
                  have hpos : (0 : Int) < ((m + 1 : Nat) : Int) := by omega
                  go_enter Tryz.func24, Tryz.ntmps24
                  go_wp2_with fail
                  refine HP.out.mono ?_
                  rintro e w1 ⟨rfl, rfl⟩
                  go_wp2_with fail
                  refine HI.out.mono ?_
                  rintro e w1 ⟨rfl, hb⟩
                  have HB := Lib.hid hb
                  clear hb
                  go_wp2_with fail
                  go_ret
                  exact ⟨ret_i (by rw [hr.out]; omega), HB.out⟩
                · rw [if_neg hlt] at hI
                  have HI := Lib.hid hI
                  clear hI
                  go_enter Tryz.func24, Tryz.ntmps24
                  go_wp2_with fail
                  refine HP.out.mono ?_
                  rintro e w1 ⟨rfl, rfl⟩
                  go_wp2_with fail
                  refine HI.out.mono ?_
                  rintro e w1 ⟨rfl, hb⟩
                  have HB := Lib.hid hb
                  clear hb
                  go_wp2_with fail
                  go_ret
                  exact ⟨ret_i (by rw [hr.out]; omega), HB.out⟩
            · obtain ⟨f1, f2⟩ := beqT c44 44 rfl
              have hr : Hid (gapL s.data.toList = 1) := Lib.hid (by rw [hg]; simp [isGap, c9, c10, c13, c32, c44])
              clear hg hI c9 c10 c13 c32 c44
              go_enter Tryz.func24, Tryz.ntmps24
              go_wp2_with fail
              refine HP.out.mono ?_
              rintro e w1 ⟨rfl, rfl⟩
              go_wp2_with fail
              go_ret
              exact ⟨by rw [hr.out]; rfl, Below.refl _ _⟩
          · obtain ⟨d1, d2⟩ := beqT c32 32 rfl
            have hr : Hid (gapL s.data.toList = 1) := Lib.hid (by rw [hg]; simp [isGap, c9, c10, c13, c32])
            clear hg hI c9 c10 c13 c32
            go_enter Tryz.func24, Tryz.ntmps24
            go_wp2_with fail
            refine HP.out.mono ?_
            rintro e w1 ⟨rfl, rfl⟩
            go_wp2_with fail
            go_ret
            exact ⟨by rw [hr.out]; rfl, Below.refl _ _⟩
        · obtain ⟨c1, c2⟩ := beqT c13 13 rfl
          have hr : Hid (gapL s.data.toList = 1) := Lib.hid (by rw [hg]; simp [isGap, c9, c10, c13])
          clear hg hI c9 c10 c13
          go_enter Tryz.func24, Tryz.ntmps24
          go_wp2_with fail
          refine HP.out.mono ?_
          rintro e w1 ⟨rfl, rfl⟩
          go_wp2_with fail
          go_ret
          exact ⟨by rw [hr.out]; rfl, Below.refl _ _⟩
      · obtain ⟨b1, b2⟩ := beqT c10 10 rfl
        have hr : Hid (gapL s.data.toList = 1) := Lib.hid (by rw [hg]; simp [isGap, c9, c10])
        clear hg hI c9 c10
        go_enter Tryz.func24, Tryz.ntmps24
        go_wp2_with fail
        refine HP.out.mono ?_
        rintro e w1 ⟨rfl, rfl⟩
        go_wp2_with fail
        go_ret
        exact ⟨by rw [hr.out]; rfl, Below.refl _ _⟩
    · obtain ⟨a1, a2⟩ := beqT c9 9 rfl
      have hr : Hid (gapL s.data.toList = 1) := Lib.hid (by rw [hg]; simp [isGap, c9])
      clear hg hI c9
      go_enter Tryz.func24, Tryz.ntmps24
      go_wp2_with fail
      refine HP.out.mono ?_
      rintro e w1 ⟨rfl, rfl⟩
      go_wp2_with fail
      go_ret
      exact ⟨by rw [hr.out]; rfl, Below.refl _ _⟩
  · have HP := Lib.hid (hasP s ⟨#[239, 187, 191]⟩ w true hp)
    have hr : Hid (gapL s.data.toList = 3) := Lib.hid (by
      have h3 := pre_len hp
      rw [len_data] at h3
      have h0 : 0 < s.size := by simp at h3; omega
      have hc := cons_at s h0
      rw [hc] at hp ⊢
      have h239 : s[0] = 239 := by
        unfold pre at hp
        rw [List.isPrefixOf_cons_cons] at hp
        simp only [Bool.and_eq_true, beq_iff_eq] at hp
        exact hp.1.symm
      rw [h239] at hp ⊢
      simp only [gapL, hp]
      rfl)
    clear hp
    go_enter Tryz.func24, Tryz.ntmps24
    go_wp2_with fail
    refine HP.out.mono ?_
    rintro e w1 ⟨rfl, rfl⟩
    go_wp2_with fail
    go_ret
    exact ⟨by rw [hr.out]; rfl, Below.refl _ _⟩
theorem gap_at (s : ByteArray) (k : Nat) (w : World) (hs : s.size ≤ 9000) : Calls Tryz.prog 24 #[.string (s.extract k s.size)] w fun e w' => e = .returned (.int .i64 (gapL (s.data.toList.drop k))) ∧ Below w.heap.size w w' := by
  have h := gap_any (s.extract k s.size) w (by rw [ext_size]; omega)
  rwa [ext_data] at h
end Go.Proofs.YtcdcfhplkimecaaGreatDoor
/- The walk of token's escaped. -/
namespace Go.Proofs.YtcdcfhplkimecaaGreatDoor
open Go.RowKit

theorem info_i : (Tryz.prog.info? 3).map (fun i => (i.zero, i.size, i.bytes)) = some (some (.int .i64 0), 1, 8) := by kernel_rfl
theorem own_shape {w : World} {base : Nat} {e : TypeId} {v : Value} {n : Nat} {xs : List Value} (h : w.ownsRow base e 1 v n xs) : ∃ A cap, v = .slice A n cap := by
  rcases h.2 with ⟨hv, hn⟩ | ⟨g, cap, cur, hv, _⟩
  · exact ⟨none, 0, by rw [hv, hn]⟩
  · exact ⟨_, _, hv⟩
theorem ints_own {w : World} {base n : Nat} {A : Option Addr} {cap : Nat} {us : List Int} (h : w.ownsRow base 3 1 (.slice A n cap) us.length (us.map (Value.int .i64))) : n = us.length ∧ IntsAt w w.heap.size A us.length us := by
  rcases h.2 with ⟨hv, hn⟩ | ⟨g, c, cur, hv, hbase, hh, hnc, hm, hcs, htk⟩
  · injection hv with h1 h2 h3
    have hus : us = [] := List.eq_nil_of_length_eq_zero hn
    subst hus
    exact ⟨by simpa using h2, ⟨rfl, fun j z hz => by simp at hz⟩⟩
  · have hv' := hv
    injection hv' with h1 h2 h3
    subst h1
    refine ⟨h2, rfl, fun j z hz => ⟨g, 0, rfl, ?_, ?_⟩⟩
    · exact (h.lt g rfl).2
    · subst h2 h3
      rw [Nat.zero_add, World.ownsRow.cellAt h j (by have := (List.getElem?_eq_some_iff.1 hz).1; omega), List.getElem?_map, hz]
      rfl

def escS (l : List UInt8) : Value := match escL l with | some p => .tuple #[.string ⟨p.1.toArray⟩, .int .i64 p.2] | none => .tuple #[.string ⟨#[]⟩, .int .i64 0]
def escChars : List UInt8 := [34, 92, 47, 98, 102, 110, 114, 116]
def escMeant : List UInt8 := [34, 92, 47, 8, 12, 10, 13, 9]
theorem esc_none : ∀ c : UInt8, Lib.indexByte escChars c < 0 → escB c = none := byte_all (by decide +kernel)
theorem esc_some : ∀ c : UInt8, ¬ Lib.indexByte escChars c < 0 → Lib.indexByte escChars c ≤ 7 ∧ escB c = some (escMeant.getD (Lib.indexByte escChars c).toNat 0) := byte_all (by decide +kernel)
theorem meant_at {j : Nat} (hj : j < 8) (w : World) : (Instr.slice 9 (.string ⟨#[34, 92, 47, 8, 12, 10, 13, 9]⟩) (some (.int .i64 (j : Int))) (some (.int .i64 ((j : Int) + 1))) none).run Tryz.prog w = .ok (.string ⟨#[escMeant.getD j 0]⟩) w := by
  rcases (by omega : j = 0 ∨ j = 1 ∨ j = 2 ∨ j = 3 ∨ j = 4 ∨ j = 5 ∨ j = 6 ∨ j = 7) with rfl | rfl | rfl | rfl | rfl | rfl | rfl | rfl <;> kernel_rfl
theorem own_below {B : Nat} {e : TypeId} {k : Nat} {v : Value} {n : Nat} {xs : List Value} {w w' : World} (h : w.ownsRow B e k v n xs) (hb : Below w.heap.size w w') : w'.ownsRow B e k v n xs :=
  h.kept (row := none) ⟨hb.os, hb.tape, hb.output, hb.size, fun j hj _ => hb.block j hj⟩ (Classical.em _)

/-- Behind so many units: what has been read, and what is left. -/
def runTo (l : List UInt8) (N : Nat) (us : List Int) : Prop := N = 6 * us.length ∧ hexRun l = us ++ hexRun (l.drop N)
theorem runTo.next {l : List UInt8} {N : Nat} {us : List Int} {u : Int} (h : runTo l N us) (hu : unitAt (l.drop N) = some u) : runTo l (N + 6) (us ++ [u]) := by
  refine ⟨by rw [h.1]; simp; omega, ?_⟩
  rw [h.2, hexRun_some hu, List.drop_drop]
  simp
theorem runTo.done {l : List UInt8} {N : Nat} {us : List Int} (h : runTo l N us) (hu : unitAt (l.drop N) = none) : hexRun l = us := by rw [h.2, hexRun_none hu, List.append_nil]

def ouI (o : Option Int) : Int := match o with | some u => u | none => 0
theorem unitS_ou {l : List UInt8} {o : Option Int} (h : unitAt l = o) : unitS l = .tuple #[.int .i64 (ouI o), .bool o.isSome] := by
  unfold unitS
  rw [h]
  cases o <;> rfl

set_option maxRecDepth 100000 in
set_option maxHeartbeats 1000000 in
theorem escaped_any (s : ByteArray) (w : World) (hs : s.size ≤ 9000) (h3 : Laid3 w) : Calls Tryz.prog 64 #[.string s] w fun e w' => e = .returned (escS s.data.toList) ∧ Below w.heap.size w w' := by
  obtain ⟨i0, hi, hz0, hz1, hz2⟩ := info_parts info_i
  have hU := unit_any s w hs h3
  obtain ⟨o0, ho0⟩ : ∃ o, unitAt s.data.toList = o := ⟨_, rfl⟩
  rw [unitS_ou ho0] at hU
  have HU := Lib.hid hU
  have H3 := Lib.hid h3
  have HO0 := Lib.hid ho0
  clear hU h3 ho0
  go_enter Tryz.func64, Tryz.ntmps64
  go_wp2_with fail
  refine HU.out.mono ?_
  rintro e w1 ⟨rfl, hb⟩
  have HB0 := Lib.hid hb
  clear hb
  go_wp2_with fail
  go_loopg [4, 5, 6, 7] s.size (fun g un nv uv ov wx => ∃ (N : Nat) (us : List Int) (o : Option Int), N + g = s.size ∧ nv = .int .i64 N ∧ uv = .int .i64 (ouI o) ∧ ov = .bool o.isSome ∧ us.length ≤ N ∧ Aside (runTo s.data.toList N us) ∧ Aside (unitAt (s.data.toList.drop N) = o) ∧ wx.ownsRow w.heap.size 3 1 un us.length (us.map (Value.int .i64)) ∧ Below w.heap.size w wx)
  case atStart => exact ⟨0, [], o0, by omega, rfl, rfl, rfl, by simp, Aside.intro ⟨rfl, rfl⟩, Aside.intro HO0.out, World.ownsRow_nil _ _ _ _, HB0.out⟩
  case round =>
    obtain ⟨N, us, o, hN, rfl, rfl, rfl, hul, HR, HO, hown, hb⟩ := hrel
    obtain ⟨A, cap, rfl⟩ := own_shape hown
    have HB := Lib.hid hb
    have hbs := hb.size
    have H3r := Lib.hid (H3.out.below hb)
    clear hb
    cases o with
    | none =>
      have hrun := Lib.hid (HR.out.done HO.out)
      rcases Nat.eq_zero_or_pos N with hz | hz
      · -- no unit: a single sign
        have hus : us = [] := List.eq_nil_of_length_eq_zero (by have := HR.out.1; omega)
        have hn0 : ¬ (0 : Int) < (N : Int) := by omega
        rw [hus] at hrun
        clear HR HO hus hz
        by_cases h2 : s.size < 2
        · have h2' : (s.size : Int) < 2 := by omega
          have hr : Hid (escS s.data.toList = .tuple #[.string ⟨#[]⟩, .int .i64 0]) := Lib.hid (by
            have hl := len_data s
            unfold escS escL
            rw [if_pos hrun.out]
            match s.data.toList, hl with
            | [], _ => rfl
            | [_], _ => rfl
            | _ :: _ :: _, hl => simp only [List.length_cons] at hl; omega)
          clear hrun hown
          go_wp2_with fail
          go_ret2
          exact ⟨by rw [hr.out]; rfl, HB.out⟩
        · have h2' : ¬ (s.size : Int) < 2 := by omega
          have h1s : 1 < s.size := by omega
          have he : escL s.data.toList = (escB s[1]).map fun x => ([x], 2) := by
            unfold escL
            rw [if_pos hrun.out]
            have h0 := cons_at s (by omega)
            rw [drop_at s 1 h1s] at h0
            rw [h0]
          have hI := indexByte_any ⟨#[34, 92, 47, 98, 102, 110, 114, 116]⟩ (s[1].toNat : Int) wr
          rw [show ((s[1].toNat : Int).toNat.toUInt8) = s[1] by simp] at hI
          have en := esc_none s[1]
          have es := esc_some s[1]
          obtain ⟨r, hr⟩ : ∃ r, Lib.indexByte (⟨#[34, 92, 47, 98, 102, 110, 114, 116]⟩ : ByteArray).data.toList s[1] = r := ⟨_, rfl⟩
          change (Lib.indexByte escChars s[1]) = r at hr
          change Calls _ _ _ _ fun e w' => e = .returned (.int .i64 (Lib.indexByte escChars s[1])) ∧ w' = wr at hI
          rw [hr] at hI en es
          have HI := Lib.hid hI
          clear hI hr hrun hown
          by_cases hneg : r < 0
          · have hr' : Hid (escS s.data.toList = .tuple #[.string ⟨#[]⟩, .int .i64 0]) := Lib.hid (by unfold escS; rw [he, en hneg]; rfl)
            clear he en es
            go_wp2_with fail
            refine HI.out.mono ?_
            rintro e w2 ⟨rfl, rfl⟩
            go_wp2_with fail
            go_ret2
            exact ⟨by rw [hr'.out]; rfl, HB.out⟩
          · obtain ⟨e7, ex⟩ := es hneg
            obtain ⟨j, rfl⟩ : ∃ j : Nat, r = j := ⟨r.toNat, by omega⟩
            have hj7 : j < 8 := by omega
            obtain ⟨X, hX⟩ : ∃ X, escMeant.getD j 0 = X := ⟨_, rfl⟩
            have hr' : Hid (escS s.data.toList = .tuple #[.string ⟨#[X]⟩, .int .i64 2]) := Lib.hid (by
              unfold escS
              rw [he, ex, Int.toNat_natCast, hX]
              rfl)
            have hM := fun w => meant_at hj7 w
            rw [hX] at hM
            have hj8 : (j : Int) + 1 ≤ 8 := by omega
            clear he en es ex e7 hX
            go_wp2_with fail
            refine HI.out.mono ?_
            rintro e w2 ⟨rfl, rfl⟩
            go_wp2_with fail
            go_ret2
            exact ⟨by rw [hr'.out]; rfl, HB.out⟩
      · have hn0 : (0 : Int) < (N : Int) := by omega
        have hio := ints_own hown
        have hJ := join_any A us.length cap us wr (by omega) hio.2
        have hne : us ≠ [] := by intro e; have := HR.out.1; rw [e] at this; simp at this; omega
        have HN6 : Hid (N = 6 * us.length) := Lib.hid HR.out.1
        obtain ⟨J, hJs⟩ : ∃ J, joinS us = J := ⟨_, rfl⟩
        cases hjo : joinOk us
        · rw [hjo, hJs] at hJ
          have HJ := Lib.hid hJ
          have hr : Hid (escS s.data.toList = .tuple #[.string ⟨#[]⟩, .int .i64 0]) := Lib.hid (by
            unfold escS escL
            rw [hrun.out, if_neg hne]
            unfold joinOk at hjo
            cases hj : joinL us with
            | none => rfl
            | some x => rw [hj] at hjo; cases hjo)
          clear hJ hjo hJs hrun HR HO hio hown
          go_wp2_with fail
          refine HJ.out.mono ?_
          rintro e w2 ⟨rfl, hb2⟩
          have HB2 := Lib.hid hb2
          clear hb2
          go_wp2_with fail
          go_ret2
          exact ⟨by rw [hr.out]; rfl, HB.out.trans (HB2.out.mono hbs)⟩
        · rw [hjo, hJs] at hJ
          have HJ := Lib.hid hJ
          have hr : Hid (escS s.data.toList = .tuple #[.string J, .int .i64 N]) := Lib.hid (by
            unfold escS escL
            rw [hrun.out, if_neg hne]
            unfold joinOk at hjo
            unfold joinS at hJs
            cases hj : joinL us with
            | none => rw [hj] at hjo; cases hjo
            | some x => rw [hj] at hJs; subst hJs; rw [HN6.out]; rfl)
          clear hJ hjo hJs hrun HR HO hio hown
          go_wp2_with fail
          refine HJ.out.mono ?_
          rintro e w2 ⟨rfl, hb2⟩
          have HB2 := Lib.hid hb2
          clear hb2
          go_wp2_with fail
          go_ret2
          exact ⟨by rw [hr.out]; rfl, HB.out.trans (HB2.out.mono hbs)⟩
    | some u =>
      have h6 : N + 6 ≤ s.size := by
        have := unitAt_len HO.out
        rw [List.length_drop, len_data] at this
        omega
      have h6' : (N : Int) + 6 ≤ (s.size : Int) := by omega
      have hN0 : (0 : Int) ≤ (N : Int) + 6 := by omega
      have hR := Lib.hid (HR.out.next HO.out)
      have hub := unitAt_bd HO.out
      obtain ⟨o2, ho2⟩ : ∃ o, unitAt (s.data.toList.drop (N + 6)) = o := ⟨_, rfl⟩
      have HO2 := Lib.hid ho2
      clear HR HO ho2
      go_wp2_with (at_builtin; refine wpList_append_own _ rfl _ _ 80 rfl w.heap.size 3 i0 (.int .i64 0) 1 8 Tryz.underlying80 hi hz0 hz1 hz2 rfl (by decide) _ _ _ rfl (hown.alloc _) ⟨wr.heap.size, 0, none⟩ 1 1 [.int .i64 u] rfl rfl (cell_one_new _ _ _) (by intro x hx; simp at hx; rcases hx with rfl; rfl) (by unfold maxLen; omega) (by omega) (by simp; omega) ?_; intro v' w3 hown' hgrow _; obtain ⟨A', cap', rfl⟩ := own_shape hown'; have HG := Lib.hid hgrow; have HO := Lib.hid hown'; have HW := Lib.hid hown; clear hgrow hown' hown)
      have hb3 := (HB.out.alloc HB.out.size (.cells #[.int .i64 u] 3)).grown HG.out (by simp; omega) (fun q hq => (HW.out.lt q hq).1)
      have hU2 := unit_at s (N + 6) w3 hs (H3.out.below hb3)
      rw [unitS_ou HO2.out] at hU2
      have HU2 := Lib.hid hU2
      have HB3 := Lib.hid hb3
      clear hU2 hb3
      refine HU2.out.mono ?_
      rintro e w4 ⟨rfl, hb4⟩
      have HB4 := Lib.hid hb4
      clear hb4
      go_wp2_with fail
      go_roundg (gk - 6)
      case measure => omega
      case rel => exact ⟨N + 6, us ++ [u], o2, by omega, by go_num, rfl, rfl, by simp; omega, Aside.intro hR.out, Aside.intro HO2.out, by rw [List.map_append, List.length_append]; exact own_below HO.out HB4.out, HB3.out.trans (HB4.out.mono HB3.out.size)⟩
end Go.Proofs.YtcdcfhplkimecaaGreatDoor
