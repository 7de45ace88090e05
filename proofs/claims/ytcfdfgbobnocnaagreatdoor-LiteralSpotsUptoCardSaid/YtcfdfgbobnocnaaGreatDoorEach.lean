/- The walks of letters.each, Good and Source. -/
import Derived.Test.YtcfdfgbobnocnaaGreatDoorChecked
import Derived.Test.YtcfdfgbobnocnaaGreatDoorCodes
import Derived.WalkKit
import Derived.Deep.LoopGhost
import Derived.Lib.Hide
import Derived.Below
import Derived.Shelf.Abstract
namespace Go.Proofs.YtcfdfgbobnocnaaGreatDoor
open Go.RowKit

theorem Aside.intro {p : Prop} (h : p) : Aside p := h
theorem ret_bool {a b : Bool} (h : a = b) : Ending.returned (.bool a) = .returned (.bool b) := by rw [h]
theorem ret_boolw {a b : Bool} {w : World} (h : a = true ↔ b = true) : Ending.returned (.bool a) = .returned (.bool b) ∧ w = w := by rw [Bool.eq_iff_iff.2 h]; exact ⟨rfl, rfl⟩

theorem letter_any (c : Int) (w : World) : Calls Tryz.prog 53 #[.int .u8 c] w fun e w' => e = .returned (.bool (letB c)) ∧ w = w' := by
  go_enter Tryz.func53, Tryz.ntmps53
  go_wp2
  all_goals go_ret
  all_goals (refine ret_boolw ?_; simp [letB]; try omega)
theorem digit_any (c : Int) (w : World) : Calls Tryz.prog 54 #[.int .u8 c] w fun e w' => e = .returned (.bool (digB c)) ∧ w = w' := by
  go_enter Tryz.func54, Tryz.ntmps54
  go_wp2
  all_goals go_ret
  all_goals (refine ret_boolw ?_; simp [digB]; try omega)
theorem start_any (c : Int) (w : World) : Calls Tryz.prog 55 #[.int .u8 c] w fun e w' => e = .returned (.bool (letB c)) ∧ w = w' := by
  go_enter Tryz.func55, Tryz.ntmps55
  go_wp2
  all_goals go_ret
  all_goals (refine ret_boolw ?_; simp [letB]; try omega)
theorem rdigit_any (c : Int) (w : World) : Calls Tryz.prog 56 #[.int .u8 c] w fun e w' => e = .returned (.bool (digB c)) ∧ w = w' := by
  go_enter Tryz.func56, Tryz.ntmps56
  go_wp2
  all_goals go_ret
  all_goals (refine ret_boolw ?_; simp [digB]; try omega)
theorem half_any (c : Int) (w : World) : Calls Tryz.prog 88 #[.int .i64 c] w fun e w' => e = .returned (.bool (halfB c)) ∧ w = w' := by
  go_enter Tryz.func88, Tryz.ntmps88
  go_wp2
  all_goals go_ret
  all_goals (refine ret_boolw ?_; simp [halfB]; try omega)
/-- The name's walk. -/
theorem name_any (s : ByteArray) (w : World) (hs : s.size ≤ 9223372036854775807) : Calls Tryz.prog 36 #[.string s] w fun e w' => e = .returned (.bool (nameB s.data.toList)) ∧ w = w' := by
  go_enter Tryz.func36, Tryz.ntmps36
  go_wp2
  go_loop [6] (fun i => ∃ k : Nat, k ≤ s.size ∧ i = .int .i64 k ∧ nameTo s k) (fun i => s.size - (intOf i).toNat)
  case atStart => exact ⟨0, Nat.zero_le _, rfl, .inl rfl⟩
  case round =>
    obtain ⟨k, hk, rfl, H⟩ := hrel
    by_cases hlt : k < s.size
    · cases hl : letB (s[k].toNat : Int)
      · by_cases h0 : k = 0
        · have hst := Aside.intro (name_stop0 (s := s) (by omega) (by subst h0; exact hl))
          have e0 : ((k : Int) == 0) = true := by simp [h0]
          clear h0 H
          go_wp2_with (first
            | (go_at_call 53; refine (letter_any _ _).mono ?_; rintro e w' ⟨rfl, rfl⟩)
            | (go_at_call 54; refine (digit_any _ _).mono ?_; rintro e w' ⟨rfl, rfl⟩))
          go_ret
          exact ⟨ret_bool hst.out.symm, rfl⟩
        · have e0 : ((k : Int) == 0) = false := by simp [h0]
          cases hd : digB (s[k].toNat : Int)
          · have hst := Aside.intro (name_stop (s := s) hlt h0 hl hd)
            clear h0 H
            go_wp2_with (first
              | (go_at_call 53; refine (letter_any _ _).mono ?_; rintro e w' ⟨rfl, rfl⟩)
              | (go_at_call 54; refine (digit_any _ _).mono ?_; rintro e w' ⟨rfl, rfl⟩))
            go_ret
            exact ⟨ret_bool hst.out.symm, rfl⟩
          · have hst := Aside.intro (nameTo_digit (s := s) hlt h0 H hd)
            clear h0 H
            go_wp2_with (first
              | (go_at_call 53; refine (letter_any _ _).mono ?_; rintro e w' ⟨rfl, rfl⟩)
              | (go_at_call 54; refine (digit_any _ _).mono ?_; rintro e w' ⟨rfl, rfl⟩))
            go_round
            case rel => exact ⟨k + 1, by omega, by go_num, hst.out⟩
            case measure => simp [intOf]; omega
      · have hst := Aside.intro (nameTo_letter (s := s) hlt H hl)
        clear H
        go_wp2_with (first
          | (go_at_call 53; refine (letter_any _ _).mono ?_; rintro e w' ⟨rfl, rfl⟩)
          | (go_at_call 54; refine (digit_any _ _).mono ?_; rintro e w' ⟨rfl, rfl⟩))
        go_round
        case rel => exact ⟨k + 1, by omega, by go_num, hst.out⟩
        case measure => simp [intOf]; omega
    · obtain rfl : k = s.size := by omega
      have hst := Aside.intro (name_done H)
      clear H hk
      go_wp2
      go_ret
      exact ⟨ret_bool hst.out.symm, rfl⟩
end Go.Proofs.YtcfdfgbobnocnaaGreatDoor
namespace Go.Proofs.YtcfdfgbobnocnaaGreatDoor
open Go.RowKit

/-- The table of the four shapes, as it is laid. -/
def tab : List Int := [0, 128, 0, 192, 224, 128, 224, 240, 2048, 240, 248, 65536]
def TabAt (w : World) : Prop := ∀ (j : Nat) z, tab[j]? = some z → w.cell? ⟨0, j, none⟩ = some (.int .i64 z)

/-- The four shapes, one behind the other. -/
def cells : Array Value := #[.int .i64 0, .int .i64 128, .int .i64 0, .int .i64 192, .int .i64 224, .int .i64 128, .int .i64 224, .int .i64 240, .int .i64 2048, .int .i64 240, .int .i64 248, .int .i64 65536]
theorem idx0 (w : World) : (Instr.index 127 (.agg cells) (.int .i64 0)).run Tryz.prog w = .ok (.agg #[.int .i64 0, .int .i64 128, .int .i64 0]) w := by kernel_rfl
theorem idx1 (w : World) : (Instr.index 127 (.agg cells) (.int .i64 1)).run Tryz.prog w = .ok (.agg #[.int .i64 192, .int .i64 224, .int .i64 128]) w := by kernel_rfl
theorem idx2 (w : World) : (Instr.index 127 (.agg cells) (.int .i64 2)).run Tryz.prog w = .ok (.agg #[.int .i64 224, .int .i64 240, .int .i64 2048]) w := by kernel_rfl
theorem idx3 (w : World) : (Instr.index 127 (.agg cells) (.int .i64 3)).run Tryz.prog w = .ok (.agg #[.int .i64 240, .int .i64 248, .int .i64 65536]) w := by kernel_rfl

theorem idx {n : Nat} (hn : n < 4) (w : World) : (Instr.index 127 (.agg cells) (.int .i64 n)).run Tryz.prog w = .ok (.agg #[.int .i64 (lead n), .int .i64 (mask n), .int .i64 (least n)]) w := by
  match n, hn with
  | 0, _ => exact idx0 w
  | 1, _ => exact idx1 w
  | 2, _ => exact idx2 w
  | 3, _ => exact idx3 w
theorem bne_no {a b : Int} (h : a = b) : (a != b) = false := by simp [h]
theorem bne_yes {a b : Int} (h : ¬ a = b) : (a != b) = true := by simp [h]
theorem ret_pair {a b c d : Int} {w w' : World} {B : Nat} {p : Int × Int} (h : (c, d) = p) (ha : a = c) (hb : b = d) (hw : Below B w w') :
    Ending.returned (.tuple #[.int .i64 a, .int .i64 b]) = .returned (.tuple #[.int .i64 p.1, .int .i64 p.2]) ∧ Below B w w' := by subst h ha hb; exact ⟨rfl, hw⟩

set_option maxRecDepth 100000 in
set_option maxHeartbeats 1000000 in
theorem code_in (s : ByteArray) (i : Nat) (w : World) (hs : s.size ≤ 1100000) (hi : i < s.size) (ht : TabAt w) :
    Calls Tryz.prog 80 #[.string s, .int .i64 i] w fun e w' => e = .returned (.tuple #[.int .i64 (dec (s.data.toList.drop i)).1, .int .i64 (dec (s.data.toList.drop i)).2]) ∧ Below w.heap.size w w' := by
  have t0 := ht 0 _ rfl
  have t1 := ht 1 _ rfl
  have t2 := ht 2 _ rfl
  have t3 := ht 3 _ rfl
  have t4 := ht 4 _ rfl
  have t5 := ht 5 _ rfl
  have t6 := ht 6 _ rfl
  have t7 := ht 7 _ rfl
  have t8 := ht 8 _ rfl
  have t9 := ht 9 _ rfl
  have t10 := ht 10 _ rfl
  have t11 := ht 11 _ rfl
  clear ht
  have hlen : Hid ((s.data.toList.drop i).length = s.size - i) := Lib.hid (by rw [List.length_drop, Lib.size_eq])
  have hb0 := byt_lt (s.data.toList.drop i) 0
  have e0 : (s[i].toNat : Int) = byt (s.data.toList.drop i) 0 := byt_drop s i 0 hi
  have eb := byt_drop s i
  generalize hl : s.data.toList.drop i = l at *
  have HL := Lib.hid hl
  clear hl
  have EB := Lib.hid eb
  clear eb
  have E0 := Lib.hid e0
  clear e0
  have hb0' := hb0.1
  have hb0'' := hb0.2
  clear hb0
  have g1 : (s[i].toNat : Int) < 256 := by rw [E0.out]; exact hb0''
  have d1 : decide (s.size ≤ i) = false := by simpa using hi
  have d2 : decide ((i : Int) < 0) = false := by simp
  go_enter Tryz.func80, Tryz.ntmps80
  go_wp2
  go_step3
  go_wp2
  go_step3
  go_wp2
  clear t0 t1 t2 t3 t4 t5 t6 t7 t8 t9 t10 t11
  go_loopg [21] 4 (fun g k wx => ∃ n : Nat, n + g = 4 ∧ k = .int .i64 n ∧ Below w.heap.size w wx ∧ Aside (noneTo l n))
  case atStart => exact ⟨0, by omega, rfl, Below.refl _ _, Aside.intro (fun j hj => by omega)⟩
  case round =>
    obtain ⟨n, hn, rfl, hb, HN⟩ := hrel
    have e0 := E0.out
    cases gk with
    | zero =>
      obtain rfl : n = 4 := by omega
      have hd := Lib.hid (dec_none HN.out)
      clear HN e0
      go_wp2
      try rw [Exit.noGoto_ret]
      go_ret2
      exact ret_pair hd.out.symm rfl rfl hb
    | succ g =>
      have hn4 : n < 4 := by omega
      have hn4' : (n : Int) < 4 := by omega
      have ix := idx hn4
      unfold cells at ix
      have hm := and_mask hn4 hb0' hb0''
      have hb2 := fun (o : Obj) => hb.alloc hb.size o
      by_cases hL : leads n (byt l 0)
      · have m1 := bne_no (hm.1.2 hL)
        have m2 := hm.2 hL
        clear hm
        by_cases hk : n < s.size - i
        · have hk' : (n : Int) < (s.size : Int) - (i : Int) := by omega
          have d3 : decide ((s.size : Int) - (i : Int) ≤ (n : Int)) = false := by simp; omega
          have hb3 := Lib.hid hb2
          clear hb2
          go_wp2
          clear ix m1 m2 e0
          go_loopg [9, 10] n (fun g2 c k wy => ∃ j : Nat, 1 ≤ j ∧ j + g2 = n + 1 ∧ k = .int .i64 j ∧ c = .int .i64 (acc l (byt l 0 - lead n) j) ∧ Aside (contTo l j = true) ∧
            wr.alloc (.cells #[.int .i64 (lead n), .int .i64 (mask n), .int .i64 (least n)] 126) = wy)
          case atStart => exact ⟨1, by omega, by omega, rfl, rfl, Aside.intro rfl, rfl⟩
          case round =>
            obtain ⟨j, hj1, hjg, rfl, rfl, HC, rfl⟩ := hrel
            have hls := Lib.hid (leads_bd hL)
            have hsm := acc_small (l := l) hls.out.1 hls.out.2 (by omega) HC.out
            have hsm1 := hsm.1
            have hsm2 := hsm.2
            clear hsm
            cases gk with
            | zero =>
              obtain rfl : j = n + 1 := by omega
              have hy := fun h => Lib.hid (dec_some hn4 HN.out (decK_yes (by rw [hlen.out]; exact hk) hL HC.out h))
              have hnf := fun h => Lib.hid (noneTo_succ HN.out (decK_fair (l := l) (k := n) h))
              unfold fair at hy hnf
              generalize acc l (byt l 0 - lead n) (n + 1) = C at *
              clear HC HN
              by_cases f1 : least n ≤ C
              · by_cases f2 : C ≤ 1114111
                · cases f3 : halfB C
                  · have hy2 := hy ⟨f1, f2, f3⟩
                    clear hy hnf
                    go_wp2_with (go_at_call 88; refine (half_any _ _).mono ?_; rintro e w' ⟨rfl, rfl⟩)
                    try rw [Exit.noGoto_ret]
                    go_ret2
                    exact ret_pair hy2.out.symm rfl rfl (hb3.out _)
                  · have hn2 := hnf (by rintro ⟨_, _, h⟩; rw [f3] at h; cases h)
                    clear hy hnf
                    go_wp2_with (go_at_call 88; refine (half_any _ _).mono ?_; rintro e w' ⟨rfl, rfl⟩)
                    go_roundg g
                    case measure => omega
                    case rel => exact ⟨n + 1, by omega, by go_num, hb3.out _, Aside.intro hn2.out⟩
                · have hn2 := hnf (by rintro ⟨_, h, _⟩; exact f2 h)
                  clear hy hnf
                  go_wp2_with (go_at_call 88; refine (half_any _ _).mono ?_; rintro e w' ⟨rfl, rfl⟩)
                  go_roundg g
                  case measure => omega
                  case rel => exact ⟨n + 1, by omega, by go_num, hb3.out _, Aside.intro hn2.out⟩
              · have hn2 := hnf (by rintro ⟨h, _, _⟩; exact f1 h)
                clear hy hnf
                go_wp2_with (go_at_call 88; refine (half_any _ _).mono ?_; rintro e w' ⟨rfl, rfl⟩)
                go_roundg g
                case measure => omega
                case rel => exact ⟨n + 1, by omega, by go_num, hb3.out _, Aside.intro hn2.out⟩
            | succ g2 =>
              have hjn : (j : Int) ≤ (n : Int) := by omega
              have hij : i + j < s.size := by omega
              have ej := EB.out j hij
              have hbj := byt_lt l j
              have hbj1 := hbj.1
              have hbj2 := hbj.2
              clear hbj
              have htl := and_tail hbj1 hbj2
              by_cases hc : contB (byt l j) = true
              · have m1 := bne_no (htl.1.2 hc)
                have m2 := htl.2 hc
                have hcc : 128 ≤ byt l j ∧ byt l j ≤ 191 := by simpa [contB] using hc
                have m3 := or_six (c := acc l (byt l 0 - lead n) j) (d := byt l j - 128) (by omega) (by omega) (by omega) (by omega)
                have hx := Lib.hid hcc
                have hs1 := Lib.hid (acc_succ (l := l) (c := byt l 0 - lead n) hj1)
                have hs2 := Lib.hid (contTo_succ hj1 HC.out hc)
                clear htl hc hcc HC
                go_wp2
                go_roundg g2
                case measure => omega
                case rel => exact ⟨j + 1, by omega, by omega, by go_num, by rw [hs1.out], Aside.intro hs2.out, rfl⟩
              · have m1 := bne_yes (fun h => hc (htl.1.1 h))
                have hn2 := Lib.hid (noneTo_succ HN.out (decK_cont (k := n) hj1 (by omega) hc))
                clear htl hc HC HN
                go_wp2
                go_roundg g
                case measure => omega
                case rel => exact ⟨n + 1, by omega, by go_num, hb3.out _, Aside.intro hn2.out⟩
        · have hk' : ¬ ((n : Int) < (s.size : Int) - (i : Int)) := by omega
          have hn2 := Lib.hid (noneTo_succ HN.out (decK_short (l := l) (k := n) (by rw [hlen.out]; exact hk)))
          have hb3 := Lib.hid hb2
          clear HN hb2
          go_wp2
          go_roundg g
          case measure => omega
          case rel => exact ⟨n + 1, by omega, by go_num, hb3.out _, Aside.intro hn2.out⟩
      · have m1 := bne_yes (fun h => hL (hm.1.1 h))
        have hn2 := Lib.hid (noneTo_succ HN.out (decK_leads hL))
        have hb3 := Lib.hid hb2
        clear hm HN hb2
        go_wp2
        go_roundg g
        case measure => omega
        case rel => exact ⟨n + 1, by omega, by go_num, hb3.out _, Aside.intro hn2.out⟩
end Go.Proofs.YtcfdfgbobnocnaaGreatDoor
namespace Go.Proofs.YtcfdfgbobnocnaaGreatDoor
open Go.RowKit

theorem TabAt.lt {w : World} (h : TabAt w) : 0 < w.heap.size := by
  rcases Nat.lt_or_ge 0 w.heap.size with h' | h'
  · exact h'
  · have := h 0 0 rfl
    simp [World.cell?, Array.getElem?_eq_none h'] at this
theorem TabAt.below {w w' : World} {B : Nat} (h : TabAt w) (hb : Below B w w') (hB : 0 < B) : TabAt w' := fun j z hz => (hb.cell (p := ⟨0, j, none⟩) hB).trans (h j z hz)

/-- Code at any place. -/
def codeAt (s : ByteArray) (i : Int) : Int × Int := if 0 ≤ i ∧ i < s.size then dec (s.data.toList.drop i.toNat) else (0, 0)
set_option maxRecDepth 100000 in
theorem code_any (s : ByteArray) (i : Int) (w : World) (hs : s.size ≤ 1100000) (ht : TabAt w) :
    Calls Tryz.prog 80 #[.string s, .int .i64 i] w fun e w' => e = .returned (.tuple #[.int .i64 (codeAt s i).1, .int .i64 (codeAt s i).2]) ∧ Below w.heap.size w w' := by
  by_cases h : 0 ≤ i ∧ i < s.size
  · obtain ⟨n, rfl⟩ := Int.eq_ofNat_of_zero_le h.1
    have e : codeAt s n = dec (s.data.toList.drop n) := by rw [codeAt, if_pos h]; rfl
    rw [e]
    exact code_in s n w hs (by omega) ht
  · have e : codeAt s i = (0, 0) := by rw [codeAt, if_neg h]
    rw [e]
    clear e
    by_cases h0 : i < 0
    · go_enter Tryz.func80, Tryz.ntmps80
      go_wp2
      try go_step3
      go_wp2
      try rw [Exit.noGoto_ret]
      go_ret2
      exact ⟨rfl, Below.refl _ _⟩
    · have h1 : (s.size : Int) ≤ i := by omega
      clear h
      go_enter Tryz.func80, Tryz.ntmps80
      go_wp2
      try go_step3
      go_wp2
      try rw [Exit.noGoto_ret]
      go_ret2
      exact ⟨rfl, Below.refl _ _⟩

set_option maxRecDepth 100000 in
set_option maxHeartbeats 1000000 in
/-- each, over a test that only reads its number. -/
theorem each_pure (fn : Nat) (p : Int → Bool) (he : ∀ args w, (callFunc fn args).run Tryz.prog w = .ok (.enter fn args) w) (hp : ∀ (c : Int) (w : World), Calls Tryz.prog fn #[.int .i64 c] w fun e w' => e = .returned (.bool (p c)) ∧ w = w') (s : ByteArray) (w : World) (hs : s.size ≤ 1100000) (ht : TabAt w) :
    Calls Tryz.prog 66 #[.string s, .func (.func fn) #[] #[]] w fun e w' => e = .returned (.bool (eachP p s.data.toList)) ∧ Below w.heap.size w w' := by
  have HP := Lib.hid hp
  have HT := Lib.hid ht
  clear hp ht
  have hlen : s.data.toList.length = s.size := Array.length_toList
  have HL := Lib.hid hlen
  clear hlen
  go_enter Tryz.func66, Tryz.ntmps66
  go_wp2
  go_loopg [5] s.size (fun g i wx => ∃ k : Nat, k + g = s.size ∧ i = .int .i64 k ∧ Below w.heap.size w wx ∧ Aside (eachP p (s.data.toList.drop k) = eachP p s.data.toList))
  case atStart => exact ⟨0, by omega, rfl, Below.refl _ _, Aside.intro rfl⟩
  case round =>
    obtain ⟨k, hk, rfl, hb, H⟩ := hrel
    cases gk with
    | zero =>
      obtain rfl : k = s.size := by omega
      have h2 : Hid (eachP p s.data.toList = true) := Lib.hid (by rw [← H.out, List.drop_eq_nil_of_le (by rw [HL.out]; omega)]; rfl)
      clear H
      go_wp2
      go_ret
      exact ⟨ret_bool h2.out.symm, hb⟩
    | succ g =>
      have hlt : k < s.size := by omega
      have hlt' : (k : Int) < (s.size : Int) := by omega
      have hne : Hid (s.data.toList.drop k ≠ []) := Lib.hid (fun e => by have := congrArg List.length e; rw [List.length_drop, HL.out] at this; simp at this; omega)
      have hdl : Hid ((s.data.toList.drop k).length = s.size - k) := Lib.hid (by rw [List.length_drop, HL.out])
      have hbd := dec_bd (s.data.toList.drop k)
      have hcode := code_in s k wr hs hlt (HT.out.below hb HT.out.lt)
      have hst := Lib.hid (eachP_step (p := p) (l := s.data.toList.drop k) hne.out)
      have hbad := Lib.hid (eachP_bad (p := p) (l := s.data.toList.drop k) hne.out)
      generalize dec (s.data.toList.drop k) = d at *
      obtain ⟨c, n⟩ := d
      simp only at hbd hcode hst hbad
      obtain ⟨b1, b2, b3, b4, b5, b6⟩ := hbd
      rw [hdl.out] at b3
      have HC := Lib.hid hcode
      clear hcode b6
      by_cases hn : n = 0
      · have hfin : Hid (eachP p s.data.toList = false) := Lib.hid (by rw [← H.out]; exact hbad.out hn)
        have z0 : (n == 0) = true := by simp [hn]
        clear H hst hbad hn
        go_wp2_with fail
        refine HC.out.mono ?_
        rintro e w1 ⟨rfl, hb1⟩
        go_wp2_with fail
        go_ret
        exact ⟨ret_bool hfin.out.symm, hb.trans (hb1.mono hb.size)⟩
      · have z0 : (n == 0) = false := by simp [hn]
        cases hpc : p c
        · have hfin : Hid (eachP p s.data.toList = false) := Lib.hid (by rw [← H.out, hst.out hn, hpc]; rfl)
          have hpc' := Lib.hid hpc
          clear H hst hbad hn hpc
          go_wp2_with fail
          refine HC.out.mono ?_
          rintro e w1 ⟨rfl, hb1⟩
          go_wp2_with fail
          refine (HP.out _ _).mono ?_
          rintro e w2 ⟨rfl, rfl⟩
          rw [hpc'.out]
          go_wp2_with fail
          go_ret
          exact ⟨ret_bool hfin.out.symm, hb.trans (hb1.mono hb.size)⟩
        · have hfin : Hid (eachP p ((s.data.toList.drop k).drop n.toNat) = eachP p s.data.toList) := Lib.hid (by rw [← H.out, hst.out hn, hpc]; rfl)
          have hpc' := Lib.hid hpc
          have hn1 : 1 ≤ n := by omega
          clear H hst hbad hn hpc
          go_wp2_with fail
          refine HC.out.mono ?_
          rintro e w1 ⟨rfl, hb1⟩
          go_wp2_with fail
          refine (HP.out _ _).mono ?_
          rintro e w2 ⟨rfl, rfl⟩
          rw [hpc'.out]
          go_wp2_with fail
          obtain ⟨m, rfl⟩ := Int.eq_ofNat_of_zero_le b1
          go_roundg (s.size - (k + m))
          case measure => omega
          case rel => exact ⟨k + m, by omega, by go_num, hb.trans (hb1.mono hb.size), Aside.intro (by rw [← hfin.out, List.drop_drop]; rfl)⟩

theorem goodFn (c : Int) (w : World) : Calls Tryz.prog 67 #[.int .i64 c] w fun e w' => e = .returned (.bool ((fun _ => true) c)) ∧ w = w' := by
  go_enter Tryz.func67, Tryz.ntmps67
  go_wp2
  go_ret
  exact ⟨rfl, rfl⟩
theorem good_any (s : ByteArray) (w : World) (hs : s.size ≤ 1100000) (ht : TabAt w) : Calls Tryz.prog 49 #[.string s] w fun e w' => e = .returned (.bool (goodB s.data.toList)) ∧ Below w.heap.size w w' := by
  have H := Lib.hid (each_pure 67 (fun _ => true) (Go.Proofs.enters_of Tryz.func67 (by kernel_rfl) rfl) goodFn s w hs ht)
  go_enter Tryz.func49, Tryz.ntmps49
  go_wp2_with fail
  refine H.out.mono ?_
  rintro e w' ⟨rfl, hb⟩
  go_wp2_with fail
  go_ret
  exact ⟨rfl, hb⟩
end Go.Proofs.YtcfdfgbobnocnaaGreatDoor
