/- The walks of the small tests of letters and of the document's own answer: letter, digit, half, pair, start. Each answers a plain test of its number and leaves the world as it was. -/
import Derived.Test.YtnmidlbhkjcimaaDoorChecked
import Derived.Test.YtnmidlbhkjcimaaDoorZMath
import Derived.WalkKit
import Derived.Deep.LoopGhost
import Derived.Lib.Hide
import Derived.Below
import Derived.Shelf.Abstract
import Derived.Shelf.Strings.Prefix
import Derived.Shelf.Small.Wraps
import Derived.Shelf.Small.Strs
import Derived.Laws.AppendOwn
import Derived.Laws.AppendOwnNone
import Derived.Deep.AppendLies
import Derived.Deep.QuietTactic
import Derived.BigQuiet
import Derived.Deep.Draws
namespace Go.Proofs.YtnmidlbhkjcimaaDoor
open Go.RowKit

theorem Aside.intro {p : Prop} (h : p) : Aside p := h
theorem ret_bool {a b : Bool} (h : a = b) : Ending.returned (.bool a) = .returned (.bool b) := by rw [h]
theorem ret_boolw {a b : Bool} {w : World} (h : a = true ↔ b = true) : Ending.returned (.bool a) = .returned (.bool b) ∧ w = w := by rw [Bool.eq_iff_iff.2 h]; exact ⟨rfl, rfl⟩

theorem letter_any (c : Int) (w : World) : Calls Tryd.prog 51 #[.int .u8 c] w fun e w' => e = .returned (.bool (letB c)) ∧ w = w' := by
  go_enter Tryd.func51, Tryd.ntmps51
  go_wp2
  all_goals go_ret
  all_goals (refine ret_boolw ?_; simp [letB]; try omega)
theorem digit_any (c : Int) (w : World) : Calls Tryd.prog 52 #[.int .u8 c] w fun e w' => e = .returned (.bool (digB c)) ∧ w = w' := by
  go_enter Tryd.func52, Tryd.ntmps52
  go_wp2
  all_goals go_ret
  all_goals (refine ret_boolw ?_; simp [digB]; try omega)
theorem start_any (c : Int) (w : World) : Calls Tryd.prog 49 #[.int .u8 c] w fun e w' => e = .returned (.bool (letB c)) ∧ w = w' := by
  go_enter Tryd.func49, Tryd.ntmps49
  go_wp2
  all_goals go_ret
  all_goals (refine ret_boolw ?_; simp [letB]; try omega)
theorem rdigit_any (c : Int) (w : World) : Calls Tryd.prog 50 #[.int .u8 c] w fun e w' => e = .returned (.bool (digB c)) ∧ w = w' := by
  go_enter Tryd.func50, Tryd.ntmps50
  go_wp2
  all_goals go_ret
  all_goals (refine ret_boolw ?_; simp [digB]; try omega)
theorem half_any (c : Int) (w : World) : Calls Tryd.prog 73 #[.int .i64 c] w fun e w' => e = .returned (.bool (halfB c)) ∧ w = w' := by
  go_enter Tryd.func73, Tryd.ntmps73
  go_wp2
  all_goals go_ret
  all_goals (refine ret_boolw ?_; simp [halfB]; try omega)
/-- The name's walk. -/
theorem name_any (s : ByteArray) (w : World) (hs : s.size ≤ 9000) : Calls Tryd.prog 29 #[.string s] w fun e w' => e = .returned (.bool (nameB s.data.toList)) ∧ w = w' := by
  go_enter Tryd.func29, Tryd.ntmps29
  go_wp2
  go_loop [6] (fun i => ∃ k : Nat, k ≤ s.size ∧ i = .int .i64 k ∧ nameTo s k) (fun i => s.size - (intOf i).toNat)
  case atStart => exact ⟨0, Nat.zero_le _, rfl, .inl rfl⟩
  case round =>
    obtain ⟨k, hk, rfl, H⟩ := hrel
    by_cases hlt : k < s.size
    · cases hl : letB (s[k].toNat : Int)
      · by_cases h0 : k = 0
        · have hst := Aside.intro (name_stop0 (s := s) (by omega) (by subst h0; exact hl))
          have e0 : ((k : Int) == 0) = true := by simp [h0]
          clear h0 H
          go_wp2_with (first
            | (go_at_call 51; refine (letter_any _ _).mono ?_; rintro e w' ⟨rfl, rfl⟩)
            | (go_at_call 52; refine (digit_any _ _).mono ?_; rintro e w' ⟨rfl, rfl⟩))
          go_ret
          exact ⟨ret_bool hst.out.symm, rfl⟩
        · have e0 : ((k : Int) == 0) = false := by simp [h0]
          cases hd : digB (s[k].toNat : Int)
          · have hst := Aside.intro (name_stop (s := s) hlt h0 hl hd)
            clear h0 H
            go_wp2_with (first
              | (go_at_call 51; refine (letter_any _ _).mono ?_; rintro e w' ⟨rfl, rfl⟩)
              | (go_at_call 52; refine (digit_any _ _).mono ?_; rintro e w' ⟨rfl, rfl⟩))
            go_ret
            exact ⟨ret_bool hst.out.symm, rfl⟩
          · have hst := Aside.intro (nameTo_digit (s := s) hlt h0 H hd)
            clear h0 H
            go_wp2_with (first
              | (go_at_call 51; refine (letter_any _ _).mono ?_; rintro e w' ⟨rfl, rfl⟩)
              | (go_at_call 52; refine (digit_any _ _).mono ?_; rintro e w' ⟨rfl, rfl⟩))
            go_round
            case rel => exact ⟨k + 1, by omega, by go_num, hst.out⟩
            case measure => simp [intOf]; omega
      · have hst := Aside.intro (nameTo_letter (s := s) hlt H hl)
        clear H
        go_wp2_with (first
          | (go_at_call 51; refine (letter_any _ _).mono ?_; rintro e w' ⟨rfl, rfl⟩)
          | (go_at_call 52; refine (digit_any _ _).mono ?_; rintro e w' ⟨rfl, rfl⟩))
        go_round
        case rel => exact ⟨k + 1, by omega, by go_num, hst.out⟩
        case measure => simp [intOf]; omega
    · obtain rfl : k = s.size := by omega
      have hst := Aside.intro (name_done H)
      clear H hk
      go_wp2
      go_ret
      exact ⟨ret_bool hst.out.symm, rfl⟩
end Go.Proofs.YtnmidlbhkjcimaaDoor
/- The walk of letters.Code: what it answers is the plain function 'dec' of the bytes from the place on; below the call's own blocks nothing has turned. -/
namespace Go.Proofs.YtnmidlbhkjcimaaDoor
open Go.RowKit

/-- The table of the four shapes, as it is laid. -/
def tab : List Int := [0, 128, 0, 192, 224, 128, 224, 240, 2048, 240, 248, 65536]
def TabAt (w : World) : Prop := ∀ (j : Nat) z, tab[j]? = some z → w.cell? ⟨0, j, none⟩ = some (.int .i64 z)

/-- The four shapes, one behind the other. -/
def cells : Array Value := #[.int .i64 0, .int .i64 128, .int .i64 0, .int .i64 192, .int .i64 224, .int .i64 128, .int .i64 224, .int .i64 240, .int .i64 2048, .int .i64 240, .int .i64 248, .int .i64 65536]
theorem idx0 (w : World) : (Instr.index 89 (.agg cells) (.int .i64 0)).run Tryd.prog w = .ok (.agg #[.int .i64 0, .int .i64 128, .int .i64 0]) w := by kernel_rfl
theorem idx1 (w : World) : (Instr.index 89 (.agg cells) (.int .i64 1)).run Tryd.prog w = .ok (.agg #[.int .i64 192, .int .i64 224, .int .i64 128]) w := by kernel_rfl
theorem idx2 (w : World) : (Instr.index 89 (.agg cells) (.int .i64 2)).run Tryd.prog w = .ok (.agg #[.int .i64 224, .int .i64 240, .int .i64 2048]) w := by kernel_rfl
theorem idx3 (w : World) : (Instr.index 89 (.agg cells) (.int .i64 3)).run Tryd.prog w = .ok (.agg #[.int .i64 240, .int .i64 248, .int .i64 65536]) w := by kernel_rfl

theorem idx {n : Nat} (hn : n < 4) (w : World) : (Instr.index 89 (.agg cells) (.int .i64 n)).run Tryd.prog w = .ok (.agg #[.int .i64 (lead n), .int .i64 (mask n), .int .i64 (least n)]) w := by
  match n, hn with
  | 0, _ => exact idx0 w
  | 1, _ => exact idx1 w
  | 2, _ => exact idx2 w
  | 3, _ => exact idx3 w
theorem bne_no {a b : Int} (h : a = b) : (a != b) = false := by simp [h]
theorem bne_yes {a b : Int} (h : ¬ a = b) : (a != b) = true := by simp [h]
theorem ret_pair {a b c d : Int} {w w' : World} {B : Nat} {p : Int × Int} (h : (c, d) = p) (ha : a = c) (hb : b = d) (hw : Below B w w') :
    Ending.returned (.tuple #[.int .i64 a, .int .i64 b]) = .returned (.tuple #[.int .i64 p.1, .int .i64 p.2]) ∧ Below B w w' := by subst h ha hb; exact ⟨rfl, hw⟩

set_option maxRecDepth 100000 in
set_option maxHeartbeats 1000000 in
theorem code_in (s : ByteArray) (i : Nat) (w : World) (hs : s.size ≤ 9000) (hi : i < s.size) (ht : TabAt w) :
    Calls Tryd.prog 58 #[.string s, .int .i64 i] w fun e w' => e = .returned (.tuple #[.int .i64 (dec (s.data.toList.drop i)).1, .int .i64 (dec (s.data.toList.drop i)).2]) ∧ Below w.heap.size w w' := by
  have t0 := ht 0 _ rfl
  have t1 := ht 1 _ rfl
  have t2 := ht 2 _ rfl
  have t3 := ht 3 _ rfl
  have t4 := ht 4 _ rfl
  have t5 := ht 5 _ rfl
  have t6 := ht 6 _ rfl
  have t7 := ht 7 _ rfl
  have t8 := ht 8 _ rfl
  have t9 := ht 9 _ rfl
  have t10 := ht 10 _ rfl
  have t11 := ht 11 _ rfl
  clear ht
  have hlen : Hid ((s.data.toList.drop i).length = s.size - i) := Lib.hid (by rw [List.length_drop, Lib.size_eq])
  have hb0 := byt_lt (s.data.toList.drop i) 0
  have e0 : (s[i].toNat : Int) = byt (s.data.toList.drop i) 0 := byt_drop s i 0 hi
  have eb := byt_drop s i
  generalize hl : s.data.toList.drop i = l at *
  have HL := Lib.hid hl
  clear hl
  have EB := Lib.hid eb
  clear eb
  have E0 := Lib.hid e0
  clear e0
  have hb0' := hb0.1
  have hb0'' := hb0.2
  clear hb0
  have g1 : (s[i].toNat : Int) < 256 := by rw [E0.out]; exact hb0''
  have d1 : decide (s.size ≤ i) = false := by simpa using hi
  have d2 : decide ((i : Int) < 0) = false := by simp
  go_enter Tryd.func58, Tryd.ntmps58
  go_wp2
  go_step3
  go_wp2
  go_step3
  go_wp2
  clear t0 t1 t2 t3 t4 t5 t6 t7 t8 t9 t10 t11
  go_loopg [21] 4 (fun g k wx => ∃ n : Nat, n + g = 4 ∧ k = .int .i64 n ∧ Below w.heap.size w wx ∧ Aside (noneTo l n))
  case atStart => exact ⟨0, by omega, rfl, Below.refl _ _, Aside.intro (fun j hj => by omega)⟩
  case round =>
    obtain ⟨n, hn, rfl, hb, HN⟩ := hrel
    have e0 := E0.out
    cases gk with
    | zero =>
      obtain rfl : n = 4 := by omega
      have hd := Lib.hid (dec_none HN.out)
      clear HN e0
      go_wp2
      try rw [Exit.noGoto_ret]
      go_ret2
      exact ret_pair hd.out.symm rfl rfl hb
    | succ g =>
      have hn4 : n < 4 := by omega
      have hn4' : (n : Int) < 4 := by omega
      have ix := idx hn4
      unfold cells at ix
      have hm := and_mask hn4 hb0' hb0''
      have hb2 := fun (o : Obj) => hb.alloc hb.size o
      by_cases hL : leads n (byt l 0)
      · have m1 := bne_no (hm.1.2 hL)
        have m2 := hm.2 hL
        clear hm
        by_cases hk : n < s.size - i
        · have hk' : (n : Int) < (s.size : Int) - (i : Int) := by omega
          have d3 : decide ((s.size : Int) - (i : Int) ≤ (n : Int)) = false := by simp; omega
          have hb3 := Lib.hid hb2
          clear hb2
          go_wp2
          clear ix m1 m2 e0
          go_loopg [9, 10] n (fun g2 c k wy => ∃ j : Nat, 1 ≤ j ∧ j + g2 = n + 1 ∧ k = .int .i64 j ∧ c = .int .i64 (acc l (byt l 0 - lead n) j) ∧ Aside (contTo l j = true) ∧
            wr.alloc (.cells #[.int .i64 (lead n), .int .i64 (mask n), .int .i64 (least n)] 88) = wy)
          case atStart => exact ⟨1, by omega, by omega, rfl, rfl, Aside.intro rfl, rfl⟩
          case round =>
            obtain ⟨j, hj1, hjg, rfl, rfl, HC, rfl⟩ := hrel
            have hls := Lib.hid (leads_bd hL)
            have hsm := acc_small (l := l) hls.out.1 hls.out.2 (by omega) HC.out
            have hsm1 := hsm.1
            have hsm2 := hsm.2
            clear hsm
            cases gk with
            | zero =>
              obtain rfl : j = n + 1 := by omega
              have hy := fun h => Lib.hid (dec_some hn4 HN.out (decK_yes (by rw [hlen.out]; exact hk) hL HC.out h))
              have hnf := fun h => Lib.hid (noneTo_succ HN.out (decK_fair (l := l) (k := n) h))
              unfold fair at hy hnf
              generalize acc l (byt l 0 - lead n) (n + 1) = C at *
              clear HC HN
              by_cases f1 : least n ≤ C
              · by_cases f2 : C ≤ 1114111
                · cases f3 : halfB C
                  · have hy2 := hy ⟨f1, f2, f3⟩
                    clear hy hnf
                    go_wp2_with (go_at_call 73; refine (half_any _ _).mono ?_; rintro e w' ⟨rfl, rfl⟩)
                    try rw [Exit.noGoto_ret]
                    go_ret2
                    exact ret_pair hy2.out.symm rfl rfl (hb3.out _)
                  · have hn2 := hnf (by rintro ⟨_, _, h⟩; rw [f3] at h; cases h)
                    clear hy hnf
                    go_wp2_with (go_at_call 73; refine (half_any _ _).mono ?_; rintro e w' ⟨rfl, rfl⟩)
                    go_roundg g
                    case measure => omega
                    case rel => exact ⟨n + 1, by omega, by go_num, hb3.out _, Aside.intro hn2.out⟩
                · have hn2 := hnf (by rintro ⟨_, h, _⟩; exact f2 h)
                  clear hy hnf
                  go_wp2_with (go_at_call 73; refine (half_any _ _).mono ?_; rintro e w' ⟨rfl, rfl⟩)
                  go_roundg g
                  case measure => omega
                  case rel => exact ⟨n + 1, by omega, by go_num, hb3.out _, Aside.intro hn2.out⟩
              · have hn2 := hnf (by rintro ⟨h, _, _⟩; exact f1 h)
                clear hy hnf
                go_wp2_with (go_at_call 73; refine (half_any _ _).mono ?_; rintro e w' ⟨rfl, rfl⟩)
                go_roundg g
                case measure => omega
                case rel => exact ⟨n + 1, by omega, by go_num, hb3.out _, Aside.intro hn2.out⟩
            | succ g2 =>
              have hjn : (j : Int) ≤ (n : Int) := by omega
              have hij : i + j < s.size := by omega
              have ej := EB.out j hij
              have hbj := byt_lt l j
              have hbj1 := hbj.1
              have hbj2 := hbj.2
              clear hbj
              have htl := and_tail hbj1 hbj2
              by_cases hc : contB (byt l j) = true
              · have m1 := bne_no (htl.1.2 hc)
                have m2 := htl.2 hc
                have hcc : 128 ≤ byt l j ∧ byt l j ≤ 191 := by simpa [contB] using hc
                have m3 := or_six (c := acc l (byt l 0 - lead n) j) (d := byt l j - 128) (by omega) (by omega) (by omega) (by omega)
                have hx := Lib.hid hcc
                have hs1 := Lib.hid (acc_succ (l := l) (c := byt l 0 - lead n) hj1)
                have hs2 := Lib.hid (contTo_succ hj1 HC.out hc)
                clear htl hc hcc HC
                go_wp2
                go_roundg g2
                case measure => omega
                case rel => exact ⟨j + 1, by omega, by omega, by go_num, by rw [hs1.out], Aside.intro hs2.out, rfl⟩
              · have m1 := bne_yes (fun h => hc (htl.1.1 h))
                have hn2 := Lib.hid (noneTo_succ HN.out (decK_cont (k := n) hj1 (by omega) hc))
                clear htl hc HC HN
                go_wp2
                go_roundg g
                case measure => omega
                case rel => exact ⟨n + 1, by omega, by go_num, hb3.out _, Aside.intro hn2.out⟩
        · have hk' : ¬ ((n : Int) < (s.size : Int) - (i : Int)) := by omega
          have hn2 := Lib.hid (noneTo_succ HN.out (decK_short (l := l) (k := n) (by rw [hlen.out]; exact hk)))
          have hb3 := Lib.hid hb2
          clear HN hb2
          go_wp2
          go_roundg g
          case measure => omega
          case rel => exact ⟨n + 1, by omega, by go_num, hb3.out _, Aside.intro hn2.out⟩
      · have m1 := bne_yes (fun h => hL (hm.1.1 h))
        have hn2 := Lib.hid (noneTo_succ HN.out (decK_leads hL))
        have hb3 := Lib.hid hb2
        clear hm HN hb2
        go_wp2
        go_roundg g
        case measure => omega
        case rel => exact ⟨n + 1, by omega, by go_num, hb3.out _, Aside.intro hn2.out⟩
end Go.Proofs.YtnmidlbhkjcimaaDoor
/- The walks of letters.each, Good and Source. -/
namespace Go.Proofs.YtnmidlbhkjcimaaDoor
open Go.RowKit

theorem TabAt.lt {w : World} (h : TabAt w) : 0 < w.heap.size := by
  rcases Nat.lt_or_ge 0 w.heap.size with h' | h'
  · exact h'
  · have := h 0 0 rfl
    simp [World.cell?, Array.getElem?_eq_none h'] at this
theorem TabAt.below {w w' : World} {B : Nat} (h : TabAt w) (hb : Below B w w') (hB : 0 < B) : TabAt w' := fun j z hz => (hb.cell (p := ⟨0, j, none⟩) hB).trans (h j z hz)

/-- Code at any place. -/
def codeAt (s : ByteArray) (i : Int) : Int × Int := if 0 ≤ i ∧ i < s.size then dec (s.data.toList.drop i.toNat) else (0, 0)
set_option maxRecDepth 100000 in
theorem code_any (s : ByteArray) (i : Int) (w : World) (hs : s.size ≤ 9000) (ht : TabAt w) :
    Calls Tryd.prog 58 #[.string s, .int .i64 i] w fun e w' => e = .returned (.tuple #[.int .i64 (codeAt s i).1, .int .i64 (codeAt s i).2]) ∧ Below w.heap.size w w' := by
  by_cases h : 0 ≤ i ∧ i < s.size
  · obtain ⟨n, rfl⟩ := Int.eq_ofNat_of_zero_le h.1
    have e : codeAt s n = dec (s.data.toList.drop n) := by rw [codeAt, if_pos h]; rfl
    rw [e]
    exact code_in s n w hs (by omega) ht
  · have e : codeAt s i = (0, 0) := by rw [codeAt, if_neg h]
    rw [e]
    clear e
    by_cases h0 : i < 0
    · go_enter Tryd.func58, Tryd.ntmps58
      go_wp2
      try go_step3
      go_wp2
      try rw [Exit.noGoto_ret]
      go_ret2
      exact ⟨rfl, Below.refl _ _⟩
    · have h1 : (s.size : Int) ≤ i := by omega
      clear h
      go_enter Tryd.func58, Tryd.ntmps58
      go_wp2
      try go_step3
      go_wp2
      try rw [Exit.noGoto_ret]
      go_ret2
      exact ⟨rfl, Below.refl _ _⟩

set_option maxRecDepth 100000 in
set_option maxHeartbeats 1000000 in
/-- each, over a test that only reads its number. -/
theorem each_pure (fn : Nat) (p : Int → Bool) (he : ∀ args w, (callFunc fn args).run Tryd.prog w = .ok (.enter fn args) w) (hp : ∀ (c : Int) (w : World), Calls Tryd.prog fn #[.int .i64 c] w fun e w' => e = .returned (.bool (p c)) ∧ w = w') (s : ByteArray) (w : World) (hs : s.size ≤ 9000) (ht : TabAt w) :
    Calls Tryd.prog 45 #[.string s, .func (.func fn) #[] #[]] w fun e w' => e = .returned (.bool (eachP p s.data.toList)) ∧ Below w.heap.size w w' := by
  have HP := Lib.hid hp
  have HT := Lib.hid ht
  clear hp ht
  have hlen : s.data.toList.length = s.size := Array.length_toList
  have HL := Lib.hid hlen
  clear hlen
  go_enter Tryd.func45, Tryd.ntmps45
  go_wp2
  go_loopg [5] s.size (fun g i wx => ∃ k : Nat, k + g = s.size ∧ i = .int .i64 k ∧ Below w.heap.size w wx ∧ Aside (eachP p (s.data.toList.drop k) = eachP p s.data.toList))
  case atStart => exact ⟨0, by omega, rfl, Below.refl _ _, Aside.intro rfl⟩
  case round =>
    obtain ⟨k, hk, rfl, hb, H⟩ := hrel
    cases gk with
    | zero =>
      obtain rfl : k = s.size := by omega
      have h2 : Hid (eachP p s.data.toList = true) := Lib.hid (by rw [← H.out, List.drop_eq_nil_of_le (by rw [HL.out]; omega)]; rfl)
      clear H
      go_wp2
      go_ret
      exact ⟨ret_bool h2.out.symm, hb⟩
    | succ g =>
      have hlt : k < s.size := by omega
      have hlt' : (k : Int) < (s.size : Int) := by omega
      have hne : Hid (s.data.toList.drop k ≠ []) := Lib.hid (fun e => by have := congrArg List.length e; rw [List.length_drop, HL.out] at this; simp at this; omega)
      have hdl : Hid ((s.data.toList.drop k).length = s.size - k) := Lib.hid (by rw [List.length_drop, HL.out])
      have hbd := dec_bd (s.data.toList.drop k)
      have hcode := code_in s k wr hs hlt (HT.out.below hb HT.out.lt)
      have hst := Lib.hid (eachP_step (p := p) (l := s.data.toList.drop k) hne.out)
      have hbad := Lib.hid (eachP_bad (p := p) (l := s.data.toList.drop k) hne.out)
      generalize dec (s.data.toList.drop k) = d at *
      obtain ⟨c, n⟩ := d
      simp only at hbd hcode hst hbad
      obtain ⟨b1, b2, b3, b4, b5, b6⟩ := hbd
      rw [hdl.out] at b3
      have HC := Lib.hid hcode
      clear hcode b6
      by_cases hn : n = 0
      · have hfin : Hid (eachP p s.data.toList = false) := Lib.hid (by rw [← H.out]; exact hbad.out hn)
        have z0 : (n == 0) = true := by simp [hn]
        clear H hst hbad hn
        go_wp2_with fail
        refine HC.out.mono ?_
        rintro e w1 ⟨rfl, hb1⟩
        go_wp2_with fail
        go_ret
        exact ⟨ret_bool hfin.out.symm, hb.trans (hb1.mono hb.size)⟩
      · have z0 : (n == 0) = false := by simp [hn]
        cases hpc : p c
        · have hfin : Hid (eachP p s.data.toList = false) := Lib.hid (by rw [← H.out, hst.out hn, hpc]; rfl)
          have hpc' := Lib.hid hpc
          clear H hst hbad hn hpc
          go_wp2_with fail
          refine HC.out.mono ?_
          rintro e w1 ⟨rfl, hb1⟩
          go_wp2_with fail
          refine (HP.out _ _).mono ?_
          rintro e w2 ⟨rfl, rfl⟩
          rw [hpc'.out]
          go_wp2_with fail
          go_ret
          exact ⟨ret_bool hfin.out.symm, hb.trans (hb1.mono hb.size)⟩
        · have hfin : Hid (eachP p ((s.data.toList.drop k).drop n.toNat) = eachP p s.data.toList) := Lib.hid (by rw [← H.out, hst.out hn, hpc]; rfl)
          have hpc' := Lib.hid hpc
          have hn1 : 1 ≤ n := by omega
          clear H hst hbad hn hpc
          go_wp2_with fail
          refine HC.out.mono ?_
          rintro e w1 ⟨rfl, hb1⟩
          go_wp2_with fail
          refine (HP.out _ _).mono ?_
          rintro e w2 ⟨rfl, rfl⟩
          rw [hpc'.out]
          go_wp2_with fail
          obtain ⟨m, rfl⟩ := Int.eq_ofNat_of_zero_le b1
          go_roundg (s.size - (k + m))
          case measure => omega
          case rel => exact ⟨k + m, by omega, by go_num, hb.trans (hb1.mono hb.size), Aside.intro (by rw [← hfin.out, List.drop_drop]; rfl)⟩

theorem goodFn (c : Int) (w : World) : Calls Tryd.prog 46 #[.int .i64 c] w fun e w' => e = .returned (.bool ((fun _ => true) c)) ∧ w = w' := by
  go_enter Tryd.func46, Tryd.ntmps46
  go_wp2
  go_ret
  exact ⟨rfl, rfl⟩
theorem good_any (s : ByteArray) (w : World) (hs : s.size ≤ 9000) (ht : TabAt w) : Calls Tryd.prog 24 #[.string s] w fun e w' => e = .returned (.bool (goodB s.data.toList)) ∧ Below w.heap.size w w' := by
  have H := Lib.hid (each_pure 46 (fun _ => true) (Go.Proofs.enters_of Tryd.func46 (by kernel_rfl) rfl) goodFn s w hs ht)
  go_enter Tryd.func24, Tryd.ntmps24
  go_wp2_with fail
  refine H.out.mono ?_
  rintro e w' ⟨rfl, hb⟩
  go_wp2_with fail
  go_ret
  exact ⟨rfl, hb⟩
end Go.Proofs.YtnmidlbhkjcimaaDoor
/- Plain facts of tokens that the laws need: units that are written one behind the other, numbers, texts of plain bytes. -/
namespace Go.Proofs.YtnmidlbhkjcimaaDoor

theorem byte_all {P : UInt8 → Prop} (h : ∀ a : Fin 256, P (UInt8.ofNat a.val)) (b : UInt8) : P b := by
  have := h ⟨b.toNat, UInt8.toNat_lt b⟩
  simpa using this

/-- Units that have been read but not joined yet, then the rest. -/
def lineU (us : List Int) (l : List UInt8) : Option (List UInt8 × Nat) :=
  match joinL (us ++ hexRun l) with
  | none => none
  | some x => (lineL (l.drop (6 * (hexRun l).length))).map fun q => (x ++ q.1, 6 * (hexRun l).length + q.2)
theorem joinL_nil : joinL [] = some [] := rfl
theorem unitAt_head {l : List UInt8} {u : Int} (h : unitAt l = some u) : ∃ t, l = 92 :: 117 :: t := by
  unfold unitAt at h
  split at h
  · rename_i x y a b c d r
    split at h
    · rename_i hc
      simp only [Bool.and_eq_true, beq_iff_eq] at hc
      obtain ⟨⟨⟨⟨⟨rfl, rfl⟩, _⟩, _⟩, _⟩, _⟩ := hc
      exact ⟨_, rfl⟩
    · cases h
  · cases h
theorem hexRun_ne {l : List UInt8} (h : hexRun l ≠ []) : ∃ t, l = 92 :: 117 :: t := by
  cases hu : unitAt l with
  | none => exact absurd (hexRun_none hu) h
  | some u => exact unitAt_head hu
theorem map_id' {o : Option (List UInt8 × Nat)} : (o.map fun q => (([] : List UInt8) ++ q.1, 0 + q.2)) = o := by
  cases o <;> simp
theorem lineU_nil (l : List UInt8) : lineU [] l = lineL l := by
  unfold lineU
  by_cases h : hexRun l = []
  · rw [h, List.append_nil, joinL_nil]
    simp only [List.length_nil, Nat.mul_zero, List.drop_zero]
    exact map_id'
  · obtain ⟨t, rfl⟩ := hexRun_ne h
    rw [lineL_cons, List.nil_append]
    have e : escL (92 :: 117 :: t) = (joinL (hexRun (92 :: 117 :: t))).map fun x => (x, 6 * (hexRun (92 :: 117 :: t)).length) := by
      unfold escL
      rw [if_neg h]
    rw [e]
    cases joinL (hexRun (92 :: 117 :: t)) with
    | none => rfl
    | some x => rfl
theorem lineU_unit {us : List Int} {l : List UInt8} {u : Int} (h : unitAt l = some u) : lineU us l = (lineU (us ++ [u]) (l.drop 6)).map fun q => (q.1, 6 + q.2) := by
  unfold lineU
  rw [hexRun_some h, List.append_assoc, List.singleton_append]
  cases joinL (us ++ u :: hexRun (l.drop 6)) with
  | none => rfl
  | some x =>
    simp only [List.length_cons, List.drop_drop, Option.map_map]
    rw [show 6 + 6 * (hexRun (l.drop 6)).length = 6 * ((hexRun (l.drop 6)).length + 1) by omega]
    congr 1
    funext q
    simp only [Function.comp, Prod.mk.injEq, true_and]
    omega
theorem lineU_none {us : List Int} {l : List UInt8} (h : unitAt l = none) : lineU us l = match joinL us with | none => none | some x => (lineL l).map fun q => (x ++ q.1, q.2) := by
  unfold lineU
  rw [hexRun_none h, List.append_nil]
  cases joinL us with
  | none => rfl
  | some x =>
    simp only [List.length_nil, Nat.mul_zero, List.drop_zero]
    congr 1
    funext q
    simp

/-- A number is the whole of a text just if the number at its head is as long. -/
theorem kindL_eq (l : List UInt8) : kindL l = if (numeralL l).1 ≠ l.length then 0 else (numeralL l).2 := by
  have hle := numeralL_le l
  unfold kindL numberL
  by_cases h0 : (numeralL l).1 = 0
  · have h2 : (numeralL l).2 = 0 := by
      unfold numeralL at h0 ⊢
      split
      · rfl
      · rename_i hw
        rw [if_neg hw] at h0
        simp only at h0
        omega
    rw [if_pos h0]
    simp only [h0, h2]
    split <;> split <;> rfl
  · rw [if_neg h0]
    cases hb : behindB (l.drop (numeralL l).1)
    · simp only [Bool.false_eq_true, if_false]
      by_cases hl : (numeralL l).1 < l.length
      · rw [if_pos hl, if_pos (by omega)]
      · rw [if_neg hl, if_neg (by omega)]
    · have hne : l.drop (numeralL l).1 ≠ [] := by intro e; rw [e] at hb; cases hb
      have : (numeralL l).1 ≠ l.length := fun e => hne (by rw [e]; simp)
      simp only [if_true]
      rw [if_pos this]
      split <;> rfl

/-- A plain byte of a source text. -/
def ascB (b : UInt8) : Bool := srcB (b.toNat : Int) && decide (b.toNat < 128)
theorem dec_ascii {b : UInt8} (t : List UInt8) (h : b.toNat < 128) : dec (b :: t) = ((b.toNat : Int), 1) := by
  have h0 : byt (b :: t) 0 = (b.toNat : Int) := rfl
  refine dec_of (k := 0) (by omega) (by simp) ?_ rfl ?_ ?_
  · rw [h0]; unfold leads; simp [lead, wide]; omega
  · show byt (b :: t) 0 - lead 0 = _; rw [h0]; simp [lead]
  · unfold fair least halfB; simp; omega
theorem source_cons {b : UInt8} (t : List UInt8) (h : b.toNat < 128) : sourceB (b :: t) = (srcB (b.toNat : Int) && sourceB t) := by
  unfold sourceB
  rw [eachP_step (by simp) (by rw [dec_ascii t h]; simp), dec_ascii t h]
  rfl
theorem good_cons {b : UInt8} (t : List UInt8) (h : b.toNat < 128) : goodB (b :: t) = goodB t := by
  unfold goodB
  rw [eachP_step (by simp) (by rw [dec_ascii t h]; simp), dec_ascii t h]
  simp
theorem source_ascii : ∀ {l : List UInt8}, l.all ascB = true → sourceB l = true := by
  intro l
  induction l with
  | nil => intro _; rfl
  | cons b t ih =>
    intro h
    simp only [List.all_cons, Bool.and_eq_true] at h
    have h1 := h.1
    unfold ascB at h1
    simp only [Bool.and_eq_true, decide_eq_true_eq] at h1
    rw [source_cons t h1.2, h1.1, ih h.2]
    rfl
theorem good_of_source {l : List UInt8} (h : sourceB l = true) : goodB l = true := by
  unfold sourceB eachP at h
  unfold goodB eachP
  cases hc : codes l with
  | none => rw [hc] at h; cases h
  | some cs => simp
theorem source_append {a : List UInt8} (ha : sourceB a = true) (b : List UInt8) : sourceB (a ++ b) = sourceB b := by
  unfold sourceB eachP at *
  cases hc : codes a with
  | none => rw [hc] at ha; cases ha
  | some cs =>
    rw [hc] at ha
    simp only at ha
    rw [codes_append hc]
    cases codes b with
    | none => rfl
    | some ds => simp only [Option.map_some, List.all_append, ha, Bool.true_and]

/- Which byte begins what. -/
theorem num_byte : ∀ b : UInt8, (b == 45 || digU b) = true → isMark b = false ∧ letU b = false ∧ isGap b = false ∧ (b == 35) = false ∧ b ≠ 46 ∧ b ≠ 239 ∧ b ≠ 34 ∧ ascB b = true := byte_all (by decide +kernel)
theorem digU_asc : ∀ b : UInt8, digU b = true → ascB b = true := byte_all (by decide +kernel)
theorem nameU_asc : ∀ b : UInt8, nameU b = true → ascB b = true := byte_all (by decide +kernel)
theorem isMark_asc : ∀ b : UInt8, isMark b = true → ascB b = true := byte_all (by decide +kernel)
theorem pre_ne {a : UInt8} {p : List UInt8} {b : UInt8} {t : List UInt8} (h : b ≠ a) : pre (a :: p) (b :: t) = false := by
  unfold pre
  rw [List.isPrefixOf_cons_cons]
  have : (a == b) = false := by simpa using fun e => h e.symm
  rw [this, Bool.false_and]
theorem runL_take (l : List UInt8) : (l.take (runL l)).all digU = true := by
  unfold runL
  rw [← List.prefix_iff_eq_take.1 (List.takeWhile_prefix digU)]
  exact List.all_takeWhile
theorem all_add {p : UInt8 → Bool} {l : List UInt8} {a b : Nat} (h1 : (l.take a).all p = true) (h2 : ((l.drop a).take b).all p = true) : (l.take (a + b)).all p = true := by
  rw [List.take_add, List.all_append, h1, h2]; rfl
theorem all_imp {p q : UInt8 → Bool} (h : ∀ b, p b = true → q b = true) {l : List UInt8} (hl : l.all p = true) : l.all q = true := by
  rw [List.all_eq_true] at *
  exact fun x hx => h x (hl x hx)
theorem fracL_asc (l : List UInt8) : (l.take (fracL l)).all ascB = true := by
  cases l with
  | nil => rfl
  | cons b t =>
    simp only [fracL]
    split
    · rename_i h
      have hb : b = 46 := by simpa using h
      subst hb
      split
      · rfl
      · refine all_add (a := 1) (by simp; decide) ?_
        exact all_imp digU_asc (runL_take t)
    · rfl
theorem signL_asc (l : List UInt8) : (l.take (signL l)).all ascB = true := by
  cases l with
  | nil => rfl
  | cons b t =>
    simp only [signL]
    split
    · rename_i h
      have hb : ∀ b : UInt8, (b == 43 || b == 45) = true → ascB b = true := byte_all (by decide +kernel)
      simp [hb b h]
    · rfl
theorem expoL_asc (l : List UInt8) : (l.take (expoL l)).all ascB = true := by
  cases l with
  | nil => rfl
  | cons b t =>
    simp only [expoL]
    split
    · rename_i h
      have hb : ∀ b : UInt8, (b == 101 || b == 69) = true → ascB b = true := byte_all (by decide +kernel)
      split
      · rfl
      · rw [Nat.add_assoc]
        refine all_add (a := 1) (by simp [hb b h]) ?_
        exact all_add (signL_asc t) (all_imp digU_asc (runL_take _))
    · rfl
theorem wholeL_asc (l : List UInt8) : (l.take (wholeL l)).all ascB = true := by
  cases l with
  | nil => rfl
  | cons b t =>
    simp only [wholeL]
    split
    · rename_i h
      have hb : b = 48 := by simpa using h
      subst hb
      simp
      decide
    · exact all_imp digU_asc (runL_take _)
theorem minusL_asc (l : List UInt8) : (l.take (minusL l)).all ascB = true := by
  cases l with
  | nil => rfl
  | cons b t =>
    simp only [minusL]
    split
    · rename_i h
      have hb : b = 45 := by simpa using h
      subst hb
      simp
      decide
    · rfl
theorem numeralL_asc (l : List UInt8) : (l.take (numeralL l).1).all ascB = true := by
  unfold numeralL
  split
  · rfl
  · exact all_add (all_add (all_add (minusL_asc l) (wholeL_asc _)) (fracL_asc _)) (expoL_asc _)
theorem numeralL_head {l : List UInt8} (h : (numeralL l).1 ≠ 0) : ∃ b t, l = b :: t ∧ (b == 45 || digU b) = true := by
  cases l with
  | nil => exact absurd (by rfl) h
  | cons b t =>
    refine ⟨b, t, rfl, ?_⟩
    by_cases hb : (b == 45) = true
    · rw [hb]; rfl
    · have hb' : (b == 45) = false := by simpa using hb
      rw [hb', Bool.false_or]
      have hm : minusL (b :: t) = 0 := by simp only [minusL]; rw [if_neg hb]
      have hw : wholeL (b :: t) ≠ 0 := by
        intro hw
        apply h
        unfold numeralL
        rw [hm, List.drop_zero, if_pos hw]
      simp only [wholeL] at hw
      by_cases h48 : (b == 48) = true
      · have : b = 48 := by simpa using h48
        subst this
        decide
      · rw [if_neg h48] at hw
        unfold runL at hw
        rw [List.takeWhile_cons] at hw
        by_cases hd : digU b = true
        · exact hd
        · rw [if_neg hd] at hw
          exact absurd rfl hw
theorem number_cases {l : List UInt8} (h : (numberL l).1 ≠ 0) : (numberL l) = numeralL l ∧ behindB (l.drop (numeralL l).1) = false ∧ (numeralL l).1 ≠ 0 := by
  unfold numberL at *
  by_cases h0 : (numeralL l).1 = 0
  · rw [if_pos h0] at h; exact absurd rfl h
  · rw [if_neg h0] at *
    cases hb : behindB (l.drop (numeralL l).1)
    · simp [h0]
    · rw [hb] at h; exact absurd rfl h
theorem tok_number {l : List UInt8} (h : (numberL l).1 ≠ 0) : gapL l = 0 ∧ tokL l = some (((numberL l).2, l.take (numberL l).1), (numberL l).1) := by
  obtain ⟨_, _, h0⟩ := number_cases h
  obtain ⟨b, t, rfl, hb⟩ := numeralL_head h0
  obtain ⟨h1, h2, h3, h4, h5, h6, h7, _⟩ := num_byte b hb
  have g : gapL (b :: t) = 0 := by simp [gapL, h3, h4, pre_ne h6]
  have m : markN (b :: t) = 0 := by simp [markN, h1, pre_ne h5]
  have w : wordN (b :: t) = 0 := by simp [wordN, h2]
  refine ⟨g, ?_⟩
  unfold tokL
  rw [if_neg (by rw [m]; simp), if_neg (by rw [w]; simp), if_pos h]
theorem numeral_kind {l : List UInt8} (h : (numeralL l).1 ≠ 0) : (numeralL l).2 = 3 ∨ (numeralL l).2 = 4 := by
  unfold numeralL at *
  split
  · rename_i hw; rw [if_pos hw] at h; exact absurd rfl h
  · simp only; split <;> simp
/-- A text that is a number reads as that one token, and is a source text. -/
theorem numbers_yes {l : List UInt8} (h : kindL l ≠ 0) : readL l = some [(kindL l, l)] ∧ sourceB l = true ∧ (kindL l = 3 ∨ kindL l = 4) := by
  have hle := numberL_le l
  have h1 : ¬ (numberL l).1 < l.length := by
    intro hl
    unfold kindL at h
    rw [if_pos hl] at h
    exact h rfl
  have hk : kindL l = (numberL l).2 := by unfold kindL; rw [if_neg h1]
  have hn : (numberL l).1 ≠ 0 := by
    intro h0
    rw [hk] at h
    apply h
    unfold numberL at h0 ⊢
    by_cases hz : (numeralL l).1 = 0
    · rw [if_pos hz]
    · rw [if_neg hz] at h0 ⊢
      cases hb : behindB (l.drop (numeralL l).1)
      · rw [hb] at h0; exact absurd h0 hz
      · rfl
  have hlen : (numberL l).1 = l.length := by omega
  obtain ⟨e, _, hz⟩ := number_cases hn
  obtain ⟨g, t⟩ := tok_number hn
  refine ⟨?_, ?_, ?_⟩
  · rw [readL_tok g (by intro e; subst e; exact hn rfl) t, hlen, hk]
    simp [readL_nil]
  · have := numeralL_asc l
    rw [← e, hlen, List.take_length] at this
    exact source_ascii this
  · rw [hk, e]; exact numeral_kind hz
/-- A text that reads as one token of a number's kind, which is the whole text, is a number. -/
theorem read_first : ∀ (n : Nat) (l : List UInt8) (k : Int) (x : List UInt8) (r : List (Int × List UInt8)), l.length ≤ n → readL l = some ((k, x) :: r) → k = 3 ∨ k = 4 → ∃ j, j ≤ l.length ∧ (numberL (l.drop j)).1 ≠ 0 ∧ k = (numberL (l.drop j)).2 ∧ x = (l.drop j).take (numberL (l.drop j)).1 := by
  intro n
  induction n with
  | zero =>
    intro l k x r hl h
    have : l = [] := List.eq_nil_of_length_eq_zero (by omega)
    subst this
    rw [readL_nil] at h
    cases h
  | succ n ih =>
    intro l k x r hl h hk
    by_cases hg : gapL l = 0
    · by_cases hn : l = []
      · subst hn; rw [readL_nil] at h; cases h
      · cases ht : tokL l with
        | none => rw [readL_none hg hn ht] at h; cases h
        | some p =>
          rw [readL_tok hg hn ht] at h
          obtain ⟨q, _, hq⟩ := Option.map_eq_some_iff.1 h
          injection hq with hp _
          unfold tokL at ht
          split at ht
          · injection ht with ht; subst ht; injection hp with h1 _; omega
          · split at ht
            · injection ht with ht; subst ht; injection hp with h1 _; omega
            · split at ht
              · rename_i hnz
                injection ht with ht; subst ht; injection hp with h1 h2
                exact ⟨0, Nat.zero_le _, hnz, h1.symm, h2.symm⟩
              · obtain ⟨q, _, rfl⟩ := Option.map_eq_some_iff.1 ht
                injection hp with h1 _
                omega
    · rw [readL_gap hg] at h
      have := gapL_le l
      obtain ⟨j, hj, h1, h2, h3⟩ := ih (l.drop (gapL l)) k x r (by simp only [List.length_drop]; omega) h hk
      rw [List.drop_drop] at h1 h2 h3
      exact ⟨gapL l + j, by simp only [List.length_drop] at hj; omega, h1, h2, h3⟩
theorem numbers_no {l : List UInt8} (h : kindL l = 0) {k : Int} {x : List UInt8} (hr : readL l = some [(k, x)]) (hx : x = l) : ¬ (k = 3 ∨ k = 4) := by
  intro hk
  obtain ⟨j, hj, h1, h2, h3⟩ := read_first l.length l k x [] (Nat.le_refl _) hr hk
  have hle := numberL_le (l.drop j)
  subst hx
  have hlen := congrArg List.length h3
  simp only [List.length_take, List.length_drop] at hlen hle
  have hj0 : j = 0 := by omega
  subst hj0
  rw [List.drop_zero] at *
  unfold kindL at h
  rw [if_neg (by omega)] at h
  omega
end Go.Proofs.YtnmidlbhkjcimaaDoor
/- Nothing that this seat needs. -/
namespace Go.Proofs.YtnmidlbhkjcimaaDoor
end Go.Proofs.YtnmidlbhkjcimaaDoor
/- The library's own contracts at this translation, laid by hand in plain words: beginnings of strings, a byte's place, writing into a Builder, the error of a number that can't be read. -/
namespace Go.Proofs.YtnmidlbhkjcimaaDoor
open Go.Shelf Go.RowKit
def hasPRen : Go.Shelf.Ren := ⟨fun | 99 => 71 | 206 => 80 | n => n, fun | 3 => 3 | 4 => 4 | 5 => 5 | 9 => 9 | n => n, fun  | n => n⟩
theorem hasPLays : Go.Proofs.Lays.n99 Tryd.prog hasPRen := {
  mixed := by kernel_rfl
  f99 := Tryd.func71.trans (congrArg some (by kernel_rfl))
  f206 := Tryd.func80.trans (congrArg some (by kernel_rfl))
  t3 := Tryd.underlying3
  a3 := Tryd.isAgg3
  z3 := Tryd.sizeOf3
  v3 := Tryd.zeroValue3
  t4 := Tryd.underlying4
  a4 := Tryd.isAgg4
  z4 := Tryd.sizeOf4
  v4 := Tryd.zeroValue4
  t9 := Tryd.underlying9
  a9 := Tryd.isAgg9
  z9 := Tryd.sizeOf9
  v9 := Tryd.zeroValue9 }
theorem hasPrefix_any (s p : ByteArray) (w : World) : Calls Tryd.prog 71 #[.string s, .string p] w fun e w' => e = .returned (.bool (Lib.hasPrefix s.data.toList p.data.toList)) ∧ w' = w := Any.strings_HasPrefix hasPLays s p w
def trimPRen : Go.Shelf.Ren := ⟨fun | 101 => 65 | 206 => 80 | 208 => 79 | n => n, fun | 3 => 3 | 4 => 4 | 5 => 5 | 9 => 9 | n => n, fun  | n => n⟩
theorem trimPLays : Go.Proofs.Lays.n101 Tryd.prog trimPRen := {
  mixed := by kernel_rfl
  f101 := Tryd.func65.trans (congrArg some (by kernel_rfl))
  f206 := Tryd.func80.trans (congrArg some (by kernel_rfl))
  f208 := Tryd.func79.trans (congrArg some (by kernel_rfl))
  t3 := Tryd.underlying3
  a3 := Tryd.isAgg3
  z3 := Tryd.sizeOf3
  v3 := Tryd.zeroValue3
  t4 := Tryd.underlying4
  a4 := Tryd.isAgg4
  z4 := Tryd.sizeOf4
  v4 := Tryd.zeroValue4
  t9 := Tryd.underlying9
  a9 := Tryd.isAgg9
  z9 := Tryd.sizeOf9
  v9 := Tryd.zeroValue9 }
theorem trimPrefix_any (s p : ByteArray) (w : World) : Calls Tryd.prog 65 #[.string s, .string p] w fun e w' => e = .returned (.string ⟨(Lib.trimPrefix s.data.toList p.data.toList).toArray⟩) ∧ w' = w := Any.strings_TrimPrefix trimPLays s p w

end Go.Proofs.YtnmidlbhkjcimaaDoor
/- Nothing that this seat needs. -/
namespace Go.Proofs.YtnmidlbhkjcimaaDoor
end Go.Proofs.YtnmidlbhkjcimaaDoor
/- Small words on strings for the walks of token: the rest of a string, its first byte. -/
namespace Go.Proofs.YtnmidlbhkjcimaaDoor
open Go.RowKit

theorem len_data (s : ByteArray) : s.data.toList.length = s.size := Array.length_toList
theorem ext_size (s : ByteArray) (k : Nat) : (s.extract k s.size).size = s.size - k := by simp
theorem ext_data (s : ByteArray) (k : Nat) : (s.extract k s.size).data.toList = s.data.toList.drop k := by
  simp [ByteArray.data_extract, Array.toList_extract, List.extract]
  rw [← len_data s]
  simp
  exact List.take_of_length_le (by simp)
theorem ext_take (s : ByteArray) (n : Nat) : (s.extract 0 n).data.toList = s.data.toList.take n := by
  simp [ByteArray.data_extract, Array.toList_extract, List.extract]
theorem drop_at (s : ByteArray) (k : Nat) (h : k < s.size) : s.data.toList.drop k = s[k] :: s.data.toList.drop (k + 1) := by
  have hl : k < s.data.toList.length := by rw [len_data]; exact h
  rw [List.drop_eq_getElem_cons hl]
  rfl
theorem cons_at (s : ByteArray) (h : 0 < s.size) : s.data.toList = s[0] :: s.data.toList.drop 1 := by
  have := drop_at s 0 h
  rwa [List.drop_zero] at this
theorem drop_all (s : ByteArray) (k : Nat) (h : s.size ≤ k) : s.data.toList.drop k = [] := List.drop_eq_nil_of_le (by rw [len_data]; exact h)
theorem nil_of_size {s : ByteArray} (h : s.size = 0) : s.data.toList = [] := List.eq_nil_of_length_eq_zero (by rw [len_data]; exact h)
theorem empty_yes {s : ByteArray} (h : s.size = 0) : s.toList.isEmpty = true := by
  rw [Lib.toList_data, nil_of_size h]; rfl
theorem empty_no {s : ByteArray} (h : 0 < s.size) : s.toList.isEmpty = false := by
  rw [Lib.toList_data, cons_at s h]; rfl
theorem size_mk (l : List UInt8) : (⟨l.toArray⟩ : ByteArray).size = l.length := by
  show l.toArray.size = _
  simp
theorem mk_of {s : ByteArray} {l : List UInt8} (h : s.data.toList = l) : (⟨l.toArray⟩ : ByteArray) = s := by subst h; simp
def headB (p : UInt8 → Bool) : List UInt8 → Bool
  | [] => false
  | b :: _ => p b
theorem ret_b {a b : Bool} {w : World} (h : a = b) : Ending.returned (.bool a) = .returned (.bool b) ∧ w = w := ⟨by rw [h], rfl⟩
theorem ret_i {a b : Int} (h : a = b) : Ending.returned (.int .i64 a) = .returned (.int .i64 b) := by rw [h]

theorem digU_and (b : UInt8) : digU b = (decide ((48 : Int) ≤ (b.toNat : Int)) && decide ((b.toNat : Int) ≤ (57 : Int))) := by unfold digU digB; rw [Bool.decide_and]

theorem tdigit_any (s : ByteArray) (w : World) : Calls Tryd.prog 69 #[.string s] w fun e w' => e = .returned (.bool (headB digU s.data.toList)) ∧ w = w' := by
  rcases Nat.eq_zero_or_pos s.size with h0 | h0
  · have hr : headB digU s.data.toList = false := by rw [nil_of_size h0]; rfl
    have he := empty_yes h0
    rw [hr]
    clear hr
    go_enter Tryd.func69, Tryd.ntmps69
    go_wp2
    go_ret
    exact ⟨rfl, rfl⟩
  · have hr : headB digU s.data.toList = digU s[0] := by rw [cons_at s h0]; rfl
    have he := empty_no h0
    rw [hr]
    have HD : Hid (digU s[0] = (decide ((48 : Int) ≤ (s[0].toNat : Int)) && decide ((s[0].toNat : Int) ≤ (57 : Int)))) := Lib.hid (digU_and _)
    clear hr
    by_cases c1 : (48 : Int) ≤ (s[0].toNat : Int)
    · by_cases c2 : (s[0].toNat : Int) ≤ (57 : Int)
      · go_enter Tryd.func69, Tryd.ntmps69
        go_wp2
        go_ret
        exact ret_b (by rw [HD.out]; simp [c1, c2])
      · go_enter Tryd.func69, Tryd.ntmps69
        go_wp2
        go_ret
        exact ret_b (by rw [HD.out]; simp [c1, c2])
    · go_enter Tryd.func69, Tryd.ntmps69
      go_wp2
      go_ret
      exact ret_b (by rw [HD.out]; simp; omega)
theorem tletter_any (s : ByteArray) (w : World) : Calls Tryd.prog 70 #[.string s] w fun e w' => e = .returned (.bool (headB letU s.data.toList)) ∧ w = w' := by
  rcases Nat.eq_zero_or_pos s.size with h0 | h0
  · have hr : headB letU s.data.toList = false := by rw [nil_of_size h0]; rfl
    have he := empty_yes h0
    rw [hr]
    clear hr
    go_enter Tryd.func70, Tryd.ntmps70
    go_wp2
    go_ret
    exact ⟨rfl, rfl⟩
  · have hr : nameB (s.extract 0 1).data.toList = headB letU s.data.toList := by rw [ext_take, cons_at s h0]; simp [headB, nameB, tailB, letU]
    have he := empty_no h0
    have h1 : 1 ≤ s.size := h0
    have hN := name_any (s.extract 0 1) w (by simp; omega)
    rw [hr] at hN
    have HN := Lib.hid hN
    clear hr hN
    go_enter Tryd.func70, Tryd.ntmps70
    go_wp2_with fail
    refine HN.out.mono ?_
    rintro e w1 ⟨rfl, rfl⟩
    go_wp2_with fail
    go_ret
    exact ⟨rfl, rfl⟩
end Go.Proofs.YtnmidlbhkjcimaaDoor
