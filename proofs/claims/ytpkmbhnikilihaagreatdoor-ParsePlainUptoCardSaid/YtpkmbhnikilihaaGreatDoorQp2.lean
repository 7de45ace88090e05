/- The walk of letters.Code: what it answers is the plain function 'dec' of the bytes from the place on; below the call's own blocks nothing has turned. -/
import Derived.Below
import Derived.Test.YtpkmbhnikilihaaGreatDoorQp1
import Derived.Laws.AppendOwn
import Derived.Laws.AppendOwnNone
import Derived.Deep.AppendLies
import Derived.Deep.DeepCutAuto
namespace Go.Proofs.YtpkmbhnikilihaaGreatDoor
open Go.RowKit
def tab : List Int := [0, 128, 0, 192, 224, 128, 224, 240, 2048, 240, 248, 65536]
def TabAt (w : World) : Prop := ∀ (j : Nat) z, tab[j]? = some z → w.cell? ⟨1, j, none⟩ = some (.int .i64 z)
def cells : Array Value := #[.int .i64 0, .int .i64 128, .int .i64 0, .int .i64 192, .int .i64 224, .int .i64 128, .int .i64 224, .int .i64 240, .int .i64 2048, .int .i64 240, .int .i64 248, .int .i64 65536]
theorem idx0 (w : World) : (Instr.index 267 (.agg cells) (.int .i64 0)).run Tryz.prog w = .ok (.agg #[.int .i64 0, .int .i64 128, .int .i64 0]) w := by kernel_rfl
theorem idx1 (w : World) : (Instr.index 267 (.agg cells) (.int .i64 1)).run Tryz.prog w = .ok (.agg #[.int .i64 192, .int .i64 224, .int .i64 128]) w := by kernel_rfl
theorem idx2 (w : World) : (Instr.index 267 (.agg cells) (.int .i64 2)).run Tryz.prog w = .ok (.agg #[.int .i64 224, .int .i64 240, .int .i64 2048]) w := by kernel_rfl
theorem idx3 (w : World) : (Instr.index 267 (.agg cells) (.int .i64 3)).run Tryz.prog w = .ok (.agg #[.int .i64 240, .int .i64 248, .int .i64 65536]) w := by kernel_rfl
theorem idx {n : Nat} (hn : n < 4) (w : World) : (Instr.index 267 (.agg cells) (.int .i64 n)).run Tryz.prog w = .ok (.agg #[.int .i64 (lead n), .int .i64 (mask n), .int .i64 (least n)]) w := by
 match n, hn with
 | 0, _ => exact idx0 w
 | 1, _ => exact idx1 w
 | 2, _ => exact idx2 w
 | 3, _ => exact idx3 w
theorem bne_no {a b : Int} (h : a = b) : (a != b) = false := by simp [h]
theorem bne_yes {a b : Int} (h : ¬ a = b) : (a != b) = true := by simp [h]
theorem ret_pair {a b c d : Int} {w w' : World} {B : Nat} {p : Int × Int} (h : (c, d) = p) (ha : a = c) (hb : b = d) (hw : Below B w w') :
 Ending.returned (.tuple #[.int .i64 a, .int .i64 b]) = .returned (.tuple #[.int .i64 p.1, .int .i64 p.2]) ∧ Below B w w' := by subst h ha hb; exact ⟨rfl, hw⟩
set_option maxRecDepth 100000 in
set_option maxHeartbeats 1000000 in
theorem code_in (s : ByteArray) (i : Nat) (w : World) (hs : s.size ≤ 1100000) (hi : i < s.size) (ht : TabAt w) :
  Calls Tryz.prog 250 #[.string s, .int .i64 i] w fun e w' => e = .returned (.tuple #[.int .i64 (dec (s.data.toList.drop i)).1, .int .i64 (dec (s.data.toList.drop i)).2]) ∧ Below w.heap.size w w' := by
 have t0 := ht 0 _ rfl
 have t1 := ht 1 _ rfl
 have t2 := ht 2 _ rfl
 have t3 := ht 3 _ rfl
 have t4 := ht 4 _ rfl
 have t5 := ht 5 _ rfl
 have t6 := ht 6 _ rfl
 have t7 := ht 7 _ rfl
 have t8 := ht 8 _ rfl
 have t9 := ht 9 _ rfl
 have t10 := ht 10 _ rfl
 have t11 := ht 11 _ rfl
 clear ht
 have hlen : Hid ((s.data.toList.drop i).length = s.size - i) := Hd (by rw [List.length_drop, Lib.size_eq])
 have hb0 := byt_lt (s.data.toList.drop i) 0
 have e0 : (s[i].toNat : Int) = byt (s.data.toList.drop i) 0 := byt_drop s i 0 hi
 have eb := byt_drop s i
 generalize hl : s.data.toList.drop i = l at *
 have HL := Hd hl
 clear hl
 have EB := Hd eb
 clear eb
 have E0 := Hd e0
 clear e0
 have hb0' := hb0.1
 have hb0'' := hb0.2
 clear hb0
 have g1 : (s[i].toNat : Int) < 256 := by rw [E0.out]; exact hb0''
 have d1 : decide (s.size ≤ i) = false := by simpa using hi
 have d2 : decide ((i : Int) < 0) = false := by simp
 go_enter Tryz.func250, Tryz.ntmps250
 go_wp2
 go_step3
 go_wp2
 go_step3
 go_wp2
 clear t0 t1 t2 t3 t4 t5 t6 t7 t8 t9 t10 t11
 go_loopg [21] 4 (fun g k wx => ∃ n : Nat, n + g = 4 ∧ k = .int .i64 n ∧ Below w.heap.size w wx ∧ Aside (noneTo l n))
 case atStart => exact ⟨0, by omega, rfl, Below.refl _ _, Aside.intro (fun j hj => by omega)⟩
 case round =>
  obtain ⟨n, hn, rfl, hb, HN⟩ := hrel
  have e0 := E0.out
  cases gk with
  | zero =>
    obtain rfl : n = 4 := by omega
    have hd := Hd (dec_none HN.out)
    clear HN e0
    go_wp2
    try rw [Exit.noGoto_ret]
    go_ret2
    exact ret_pair hd.out.symm rfl rfl hb
  | succ g =>
    have hn4 : n < 4 := by omega
    have hn4' : (n : Int) < 4 := by omega
    have ix := idx hn4
    unfold cells at ix
    have hm := and_mask hn4 hb0' hb0''
    have hb2 := fun (o : Obj) => hb.alloc hb.size o
    by_cases hL : leads n (byt l 0)
    · have m1 := bne_no (hm.1.2 hL)
      have m2 := hm.2 hL
      clear hm
      by_cases hk : n < s.size - i
      · have hk' : (n : Int) < (s.size : Int) - (i : Int) := by omega
        have d3 : decide ((s.size : Int) - (i : Int) ≤ (n : Int)) = false := by simp; omega
        have hb3 := Hd hb2
        clear hb2
        go_wp2
        clear ix m1 m2 e0
        go_loopg [9, 10] n (fun g2 c k wy => ∃ j : Nat, 1 ≤ j ∧ j + g2 = n + 1 ∧ k = .int .i64 j ∧ c = .int .i64 (acc l (byt l 0 - lead n) j) ∧ Aside (contTo l j = true) ∧
         wr.alloc (.cells #[.int .i64 (lead n), .int .i64 (mask n), .int .i64 (least n)] 266) = wy)
        case atStart => exact ⟨1, by omega, by omega, rfl, rfl, Aside.intro rfl, rfl⟩
        case round =>
         obtain ⟨j, hj1, hjg, rfl, rfl, HC, rfl⟩ := hrel
         have hls := Hd (leads_bd hL)
         have hsm := acc_small (l := l) hls.out.1 hls.out.2 (by omega) HC.out
         have hsm1 := hsm.1
         have hsm2 := hsm.2
         clear hsm
         cases gk with
         | zero =>
           obtain rfl : j = n + 1 := by omega
           have hy := fun h => Hd (dec_some hn4 HN.out (decK_yes (by rw [hlen.out]; exact hk) hL HC.out h))
           have hnf := fun h => Hd (noneTo_succ HN.out (decK_fair (l := l) (k := n) h))
           unfold fair at hy hnf
           generalize acc l (byt l 0 - lead n) (n + 1) = C at *
           clear HC HN
           by_cases f1 : least n ≤ C
           · by_cases f2 : C ≤ 1114111
             · cases f3 : halfB C
               · have hy2 := hy ⟨f1, f2, f3⟩
                 clear hy hnf
                 go_wp2_with (go_at_call 283; refine (half_any _ _).mono ?_; rintro e w' ⟨rfl, rfl⟩)
                 try rw [Exit.noGoto_ret]
                 go_ret2
                 exact ret_pair hy2.out.symm rfl rfl (hb3.out _)
               · have hn2 := hnf (by rintro ⟨_, _, h⟩; rw [f3] at h; cases h)
                 clear hy hnf
                 go_wp2_with (go_at_call 283; refine (half_any _ _).mono ?_; rintro e w' ⟨rfl, rfl⟩)
                 go_roundg g
                 case measure => omega
                 case rel => exact ⟨n + 1, by omega, by go_num, hb3.out _, Aside.intro hn2.out⟩
             · have hn2 := hnf (by rintro ⟨_, h, _⟩; exact f2 h)
               clear hy hnf
               go_wp2_with (go_at_call 283; refine (half_any _ _).mono ?_; rintro e w' ⟨rfl, rfl⟩)
               go_roundg g
               case measure => omega
               case rel => exact ⟨n + 1, by omega, by go_num, hb3.out _, Aside.intro hn2.out⟩
           · have hn2 := hnf (by rintro ⟨h, _, _⟩; exact f1 h)
             clear hy hnf
             go_wp2_with (go_at_call 283; refine (half_any _ _).mono ?_; rintro e w' ⟨rfl, rfl⟩)
             go_roundg g
             case measure => omega
             case rel => exact ⟨n + 1, by omega, by go_num, hb3.out _, Aside.intro hn2.out⟩
         | succ g2 =>
           have hjn : (j : Int) ≤ (n : Int) := by omega
           have hij : i + j < s.size := by omega
           have ej := EB.out j hij
           have hbj := byt_lt l j
           have hbj1 := hbj.1
           have hbj2 := hbj.2
           clear hbj
           have htl := and_tail hbj1 hbj2
           by_cases hc : contB (byt l j) = true
           · have m1 := bne_no (htl.1.2 hc)
             have m2 := htl.2 hc
             have hcc : 128 ≤ byt l j ∧ byt l j ≤ 191 := by simpa [contB] using hc
             have m3 := or_six (c := acc l (byt l 0 - lead n) j) (d := byt l j - 128) (by omega) (by omega) (by omega) (by omega)
             have hx := Hd hcc
             have hs1 := Hd (acc_succ (l := l) (c := byt l 0 - lead n) hj1)
             have hs2 := Hd (contTo_succ hj1 HC.out hc)
             clear htl hc hcc HC
             go_wp2
             go_roundg g2
             case measure => omega
             case rel => exact ⟨j + 1, by omega, by omega, by go_num, by rw [hs1.out], Aside.intro hs2.out, rfl⟩
           · have m1 := bne_yes (fun h => hc (htl.1.1 h))
             have hn2 := Hd (noneTo_succ HN.out (decK_cont (k := n) hj1 (by omega) hc))
             clear htl hc HC HN
             go_wp2
             go_roundg g
             case measure => omega
             case rel => exact ⟨n + 1, by omega, by go_num, hb3.out _, Aside.intro hn2.out⟩
      · have hk' : ¬ ((n : Int) < (s.size : Int) - (i : Int)) := by omega
        have hn2 := Hd (noneTo_succ HN.out (decK_short (l := l) (k := n) (by rw [hlen.out]; exact hk)))
        have hb3 := Hd hb2
        clear HN hb2
        go_wp2
        go_roundg g
        case measure => omega
        case rel => exact ⟨n + 1, by omega, by go_num, hb3.out _, Aside.intro hn2.out⟩
    · have m1 := bne_yes (fun h => hL (hm.1.1 h))
      have hn2 := Hd (noneTo_succ HN.out (decK_leads hL))
      have hb3 := Hd hb2
      clear hm HN hb2
      go_wp2
      go_roundg g
      case measure => omega
      case rel => exact ⟨n + 1, by omega, by go_num, hb3.out _, Aside.intro hn2.out⟩
theorem TabAt.lt {w : World} (h : TabAt w) : 1 < w.heap.size := by
 rcases Nat.lt_or_ge 1 w.heap.size with h' | h'
 · exact h'
 · have := h 0 0 rfl
   simp [World.cell?, Array.getElem?_eq_none h'] at this
theorem TabAt.below {w w' : World} {B : Nat} (h : TabAt w) (hb : Below B w w') (hB : 1 < B) : TabAt w' := fun j z hz => (hb.cell (p := ⟨1, j, none⟩) hB).trans (h j z hz)
def codeAt (s : ByteArray) (i : Int) : Int × Int := if 0 ≤ i ∧ i < s.size then dec (s.data.toList.drop i.toNat) else (0, 0)
set_option maxRecDepth 100000 in
theorem code_any (s : ByteArray) (i : Int) (w : World) (hs : s.size ≤ 1100000) (ht : TabAt w) :
   Calls Tryz.prog 250 #[.string s, .int .i64 i] w fun e w' => e = .returned (.tuple #[.int .i64 (codeAt s i).1, .int .i64 (codeAt s i).2]) ∧ Below w.heap.size w w' := by
 by_cases h : 0 ≤ i ∧ i < s.size
 · obtain ⟨n, rfl⟩ := Int.eq_ofNat_of_zero_le h.1
   have e : codeAt s n = dec (s.data.toList.drop n) := by rw [codeAt, if_pos h]; rfl
   rw [e]
   exact code_in s n w hs (by omega) ht
 · have e : codeAt s i = (0, 0) := by rw [codeAt, if_neg h]
   rw [e]
   clear e
   by_cases h0 : i < 0
   · go_enter Tryz.func250, Tryz.ntmps250
     go_wp2
     try go_step3
     go_wp2
     try rw [Exit.noGoto_ret]
     go_ret2
     exact ⟨rfl, Below.refl _ _⟩
   · have h1 : (s.size : Int) ≤ i := by omega
     clear h
     go_enter Tryz.func250, Tryz.ntmps250
     go_wp2
     try go_step3
     go_wp2
     try rw [Exit.noGoto_ret]
     go_ret2
     exact ⟨rfl, Below.refl _ _⟩
set_option maxRecDepth 100000 in
set_option maxHeartbeats 1000000 in
theorem each_pure (fn : Nat) (p : Int → Bool) (he : ∀ args w, (callFunc fn args).run Tryz.prog w = .ok (.enter fn args) w) (hp : ∀ (c : Int) (w : World), Calls Tryz.prog fn #[.int .i64 c] w fun e w' => e = .returned (.bool (p c)) ∧ w = w') (s : ByteArray) (w : World) (hs : s.size ≤ 1100000) (ht : TabAt w) :
  Calls Tryz.prog 201 #[.string s, .func (.func fn) #[] #[]] w fun e w' => e = .returned (.bool (eachP p s.data.toList)) ∧ Below w.heap.size w w' := by
 have HP := Hd hp
 have HT := Hd ht
 clear hp ht
 have hlen : s.data.toList.length = s.size := Array.length_toList
 have HL := Hd hlen
 clear hlen
 go_enter Tryz.func201, Tryz.ntmps201
 go_wp2
 go_loopg [5] s.size (fun g i wx => ∃ k : Nat, k + g = s.size ∧ i = .int .i64 k ∧ Below w.heap.size w wx ∧ Aside (eachP p (s.data.toList.drop k) = eachP p s.data.toList))
 case atStart => exact ⟨0, by omega, rfl, Below.refl _ _, Aside.intro rfl⟩
 case round =>
  obtain ⟨k, hk, rfl, hb, H⟩ := hrel
  cases gk with
  | zero =>
    obtain rfl : k = s.size := by omega
    have h2 : Hid (eachP p s.data.toList = true) := Hd (by rw [← H.out, List.drop_eq_nil_of_le (by rw [HL.out]; omega)]; rfl)
    clear H
    go_wp2
    go_ret
    exact ⟨ret_bool h2.out.symm, hb⟩
  | succ g =>
    have hlt : k < s.size := by omega
    have hlt' : (k : Int) < (s.size : Int) := by omega
    have hne : Hid (s.data.toList.drop k ≠ []) := Hd (fun e => by have := congrArg List.length e; rw [List.length_drop, HL.out] at this; simp at this; omega)
    have hdl : Hid ((s.data.toList.drop k).length = s.size - k) := Hd (by rw [List.length_drop, HL.out])
    have hbd := dec_bd (s.data.toList.drop k)
    have hcode := code_in s k wr hs hlt (HT.out.below hb HT.out.lt)
    have hst := Hd (eachP_step (p := p) (l := s.data.toList.drop k) hne.out)
    have hbad := Hd (eachP_bad (p := p) (l := s.data.toList.drop k) hne.out)
    generalize dec (s.data.toList.drop k) = d at *
    obtain ⟨c, n⟩ := d
    simp only at hbd hcode hst hbad
    obtain ⟨b1, b2, b3, b4, b5, b6⟩ := hbd
    rw [hdl.out] at b3
    have HC := Hd hcode
    clear hcode b6
    by_cases hn : n = 0
    · have hfin : Hid (eachP p s.data.toList = false) := Hd (by rw [← H.out]; exact hbad.out hn)
      have z0 : (n == 0) = true := by simp [hn]
      clear H hst hbad hn
      go_wp2_with fail
      refine HC.out.mono ?_
      rintro e w1 ⟨rfl, hb1⟩
      go_wp2_with fail
      go_ret
      exact ⟨ret_bool hfin.out.symm, hb.trans (hb1.mono hb.size)⟩
    · have z0 : (n == 0) = false := by simp [hn]
      cases hpc : p c
      · have hfin : Hid (eachP p s.data.toList = false) := Hd (by rw [← H.out, hst.out hn, hpc]; rfl)
        have hpc' := Hd hpc
        clear H hst hbad hn hpc
        go_wp2_with fail
        refine HC.out.mono ?_
        rintro e w1 ⟨rfl, hb1⟩
        go_wp2_with fail
        refine (HP.out _ _).mono ?_
        rintro e w2 ⟨rfl, rfl⟩
        rw [hpc'.out]
        go_wp2_with fail
        go_ret
        exact ⟨ret_bool hfin.out.symm, hb.trans (hb1.mono hb.size)⟩
      · have hfin : Hid (eachP p ((s.data.toList.drop k).drop n.toNat) = eachP p s.data.toList) := Hd (by rw [← H.out, hst.out hn, hpc]; rfl)
        have hpc' := Hd hpc
        have hn1 : 1 ≤ n := by omega
        clear H hst hbad hn hpc
        go_wp2_with fail
        refine HC.out.mono ?_
        rintro e w1 ⟨rfl, hb1⟩
        go_wp2_with fail
        refine (HP.out _ _).mono ?_
        rintro e w2 ⟨rfl, rfl⟩
        rw [hpc'.out]
        go_wp2_with fail
        obtain ⟨m, rfl⟩ := Int.eq_ofNat_of_zero_le b1
        go_roundg (s.size - (k + m))
        case measure => omega
        case rel => exact ⟨k + m, by omega, by go_num, hb.trans (hb1.mono hb.size), Aside.intro (by rw [← hfin.out, List.drop_drop]; rfl)⟩
theorem goodFn (c : Int) (w : World) : Calls Tryz.prog 202 #[.int .i64 c] w fun e w' => e = .returned (.bool ((fun _ => true) c)) ∧ w = w' := by
 go_enter Tryz.func202, Tryz.ntmps202
 go_wp2
 go_ret
 exact ⟨rfl, rfl⟩
theorem sourceFn (c : Int) (w : World) : Calls Tryz.prog 222 #[.int .i64 c] w fun e w' => e = .returned (.bool (srcB c)) ∧ w = w' := by
 go_enter Tryz.func222, Tryz.ntmps222
 go_wp2
 all_goals go_ret
 all_goals (refine ret_boolw ?_; simp [srcB]; try omega)
theorem good_any (s : ByteArray) (w : World) (hs : s.size ≤ 1100000) (ht : TabAt w) : Calls Tryz.prog 138 #[.string s] w fun e w' => e = .returned (.bool (goodB s.data.toList)) ∧ Below w.heap.size w w' := by
 have H := Hd (each_pure 202 (fun _ => true) (Go.Proofs.enters_of Tryz.func202 (by kernel_rfl) rfl) goodFn s w hs ht)
 go_enter Tryz.func138, Tryz.ntmps138
 go_wp2_with fail
 refine H.out.mono ?_
 rintro e w' ⟨rfl, hb⟩
 go_wp2_with fail
 go_ret
 exact ⟨rfl, hb⟩
theorem source_any (s : ByteArray) (w : World) (hs : s.size ≤ 1100000) (ht : TabAt w) : Calls Tryz.prog 165 #[.string s] w fun e w' => e = .returned (.bool (sourceB s.data.toList)) ∧ Below w.heap.size w w' := by
 have H := Hd (each_pure 222 srcB (Go.Proofs.enters_of Tryz.func222 (by kernel_rfl) rfl) sourceFn s w hs ht)
 go_enter Tryz.func165, Tryz.ntmps165
 go_wp2_with fail
 refine H.out.mono ?_
 rintro e w' ⟨rfl, hb⟩
 go_wp2_with fail
 go_ret
 exact ⟨rfl, hb⟩
def IntsAt (w : World) (B : Nat) (A : Option Addr) (n : Nat) (zs : List Int) : Prop :=
 zs.length = n ∧ ∀ (j : Nat) z, zs[j]? = some z → ∃ b o, A = some ⟨b, o, none⟩ ∧ b < B ∧ w.cell? ⟨b, o + j, none⟩ = some (.int .i64 z)
theorem IntsAt.below {w w' : World} {B : Nat} {A : Option Addr} {n : Nat} {zs : List Int} (h : IntsAt w B A n zs) (hb : Below B w w') : IntsAt w' B A n zs :=
 ⟨h.1, fun j z hz => by
  obtain ⟨b, o, e, hlt, hc⟩ := h.2 j z hz
  exact ⟨b, o, e, hlt, (hb.cell (p := ⟨b, o + j, none⟩) hlt).trans hc⟩⟩
def joinS (zs : List Int) : ByteArray := match joinL zs with | some l => ⟨l.toArray⟩ | none => ⟨#[]⟩
def joinOk (zs : List Int) : Bool := (joinL zs).isSome
theorem join_ret {zs : List Int} {s : ByteArray} {b : Bool} {B : Nat} {w w' : World} (h1 : joinS zs = s) (h2 : joinOk zs = b) (hw : Below B w w') :
 Ending.returned (.tuple #[.string s, .bool b]) = .returned (.tuple #[.string (joinS zs), .bool (joinOk zs)]) ∧ Below B w w' := by subst h1 h2; exact ⟨rfl, hw⟩
def JoinTo (zs : List Int) (k : Nat) (done : List UInt8) : Prop := (pairUp (zs.drop k)).map (fun cs => done ++ bytesOf cs) = joinL zs
theorem drop_cons {zs : List Int} {k : Nat} {z : Int} (h : zs[k]? = some z) : zs.drop k = z :: zs.drop (k + 1) := by
 obtain ⟨hlt, rfl⟩ := List.getElem?_eq_some_iff.1 h
 exact List.drop_eq_getElem_cons hlt
theorem JoinTo.one {zs : List Int} {k : Nat} {done : List UInt8} {z : Int} (h : JoinTo zs k done) (hz : zs[k]? = some z) (h0 : ¬ z < 0) (h1 : ¬ 65536 ≤ z) (h2 : halfB z = false) : JoinTo zs (k + 1) (done ++ Lib.encodeRune z) := by
 unfold JoinTo at *
 rw [drop_cons hz, pairUp_one h0 h1 h2, Option.map_map] at h
 rw [← h]
 congr 1
 funext cs
 simp [bytesOf, List.append_assoc]
theorem JoinTo.two {zs : List Int} {k : Nat} {done : List UInt8} {z y : Int} (h : JoinTo zs k done) (hz : zs[k]? = some z) (hy : zs[k + 1]? = some y) (h0 : ¬ z < 0) (h1 : ¬ 65536 ≤ z) (h2 : halfB z = true) (h3 : pairB z y = true) :
  JoinTo zs (k + 2) (done ++ Lib.encodeRune (65536 + 1024 * (z - 55296) + y - 56320)) := by
 unfold JoinTo at *
 rw [drop_cons hz, drop_cons hy, pairUp_two h0 h1 h2 h3, Option.map_map] at h
 rw [← h]
 congr 1
 funext cs
 simp [bytesOf, List.append_assoc]
theorem JoinTo.no {zs : List Int} {k : Nat} {done : List UInt8} (h : JoinTo zs k done) (hn : pairUp (zs.drop k) = none) : joinS zs = ⟨#[]⟩ ∧ joinOk zs = false := by
 unfold JoinTo at h
 rw [hn] at h
 simp [joinS, joinOk, ← h]
theorem JoinTo.done {zs : List Int} {k : Nat} {done : List UInt8} (h : JoinTo zs k done) (hk : zs.length ≤ k) : joinS zs = ⟨done.toArray⟩ ∧ joinOk zs = true := by
 unfold JoinTo at h
 rw [List.drop_eq_nil_of_le hk] at h
 simp [pairUp, bytesOf] at h
 simp [joinS, joinOk, ← h]
theorem encode_len (c : Int) : (Lib.encodeRune c).length ≤ 4 := by
 have := (Lib.encodeRuneZ_length c).2
 simpa [Lib.encodeRune] using this
set_option maxRecDepth 100000 in
set_option maxHeartbeats 2000000 in
theorem join_any (A : Option Addr) (n cap : Nat) (zs : List Int) (w : World) (hn : n ≤ 1100000) (hz : IntsAt w w.heap.size A n zs) :
  Calls Tryz.prog 290 #[.slice A n cap] w fun e w' => e = .returned (.tuple #[.string (joinS zs), .bool (joinOk zs)]) ∧ Below w.heap.size w w' := by
 have HZ := Hd hz
 clear hz
 go_enter Tryz.func290, Tryz.ntmps290
 go_wp2
 go_loopg [5] n (fun g i wx => ∃ k : Nat, k + g = n ∧ i = .int .i64 k ∧ Below w.heap.size w wx ∧ Aside (∃ done : List UInt8, done.length ≤ 4 * k ∧ Lib.IsBuilderF 102 5 w.heap.size w.heap.size (Lib.byteCells done) wx ∧ JoinTo zs k done))
 case atStart => exact ⟨0, by omega, rfl, (Below.refl _ _).alloc (Nat.le_refl _) _, Aside.intro ⟨[], by simp, Lib.IsBuilderF.of (Lib.fresh_isBuilder _ _ _), by unfold JoinTo joinL; rw [List.drop_zero]; rfl⟩⟩
 case round =>
  obtain ⟨k, hk, rfl, hb, H⟩ := hrel
  cases gk with
  | zero =>
    obtain rfl : k = n := by omega
    obtain ⟨done, hd, hB, hJ⟩ := H.out
    have hfin := Hd (hJ.done (by rw [HZ.out.1]; omega))
    have HC := Hd (builderText w.heap.size w.heap.size done wr hB hb.size)
    clear H hB hJ
    go_wp2_with fail
    refine HC.out.mono ?_
    rintro e w1 ⟨rfl, _, hb1, _⟩
    go_wp2_with fail
    go_ret2
    exact join_ret hfin.out.1 hfin.out.2 (hb.trans hb1)
  | succ g =>
    have hkn : k < n := by omega
    have hkn' : (k : Int) < (n : Int) := by omega
    obtain ⟨z, hzk⟩ : ∃ z, zs[k]? = some z := ⟨_, List.getElem?_eq_getElem (by rw [HZ.out.1]; omega)⟩
    obtain ⟨b, o, rfl, hblt, hcell⟩ := (HZ.out.below hb).2 k z hzk
    have HK := Hd hzk
    clear hzk
    by_cases h0 : z < 0
    · obtain ⟨done, hd, hB, hJ⟩ := H.out
      have hfin := Hd (hJ.no (by rw [drop_cons HK.out]; exact pairUp_range (.inl h0)))
      clear H hB hJ hd
      go_wp2_with fail
      go_ret2
      exact join_ret hfin.out.1 hfin.out.2 hb
    by_cases h1 : 65536 ≤ z
    · obtain ⟨done, hd, hB, hJ⟩ := H.out
      have hfin := Hd (hJ.no (by rw [drop_cons HK.out]; exact pairUp_range (.inr h1)))
      clear H hB hJ hd
      go_wp2_with fail
      go_ret2
      exact join_ret hfin.out.1 hfin.out.2 hb
    cases hh : halfB z
    · obtain ⟨done, hd, hB, hJ⟩ := H.out
      have hJ' := Hd (hJ.one HK.out h0 h1 hh)
      have HW := Hd (writeRune w.heap.size w.heap.size (Lib.byteCells done) z (by omega) (by omega) wr hB (by rw [Lib.byteCells_length]; omega) hb.size)
      have Hh := Hd (half_any z wr)
      have hh' := Hd hh
      clear H hB hJ hh
      go_wp2_with fail
      refine Hh.out.mono ?_
      rintro e w1 ⟨rfl, rfl⟩
      rw [hh'.out]
      go_wp2_with fail
      refine HW.out.mono ?_
      rintro e w2 ⟨rfl, hB2, hb2, _⟩
      rw [← Lib.byteCells_encodeRune, ← Lib.byteCells_append] at hB2
      go_wp2_with fail
      go_roundg g
      case measure => omega
      case rel => exact ⟨k + 1, by omega, by go_num, hb.trans hb2, Aside.intro ⟨_, by rw [List.length_append]; have := encode_len z; omega, .inr hB2, hJ'.out⟩⟩
    · have Hh := Hd (half_any z wr)
      have hh' := Hd hh
      clear hh
      by_cases hlast : k + 1 = n
      · obtain ⟨done, hd, hB, hJ⟩ := H.out
        have hfin := Hd (hJ.no (by rw [drop_cons HK.out, List.drop_eq_nil_of_le (by rw [HZ.out.1]; omega)]; exact pairUp_end hh'.out))
        have e1 : ((k : Int) + 1 == (n : Int)) = true := by simp; omega
        clear H hB hJ hd hlast
        go_wp2_with fail
        refine Hh.out.mono ?_
        rintro e w1 ⟨rfl, rfl⟩
        rw [hh'.out]
        go_wp2_with fail
        go_ret2
        exact join_ret hfin.out.1 hfin.out.2 hb
      · have e1 : ((k : Int) + 1 == (n : Int)) = false := by simp; omega
        have hk1 : k + 1 < n := by omega
        have hk1' : (k : Int) + 1 < (n : Int) := by omega
        clear hlast
        obtain ⟨y, hyk⟩ : ∃ y, zs[k + 1]? = some y := ⟨_, List.getElem?_eq_getElem (by rw [HZ.out.1]; omega)⟩
        obtain ⟨b', o', e', hblt', hcell'⟩ := (HZ.out.below hb).2 (k + 1) y hyk
        obtain ⟨rfl, rfl⟩ : b = b' ∧ o = o' := by injection e' with e'; injection e' with e1 e2; exact ⟨e1, e2⟩
        clear e'
        have HK2 := Hd hyk
        clear hyk
        have Hp := Hd (pair_any z y wr)
        cases hp : pairB z y
        · obtain ⟨done, hd, hB, hJ⟩ := H.out
          have hfin := Hd (hJ.no (by rw [drop_cons HK.out, drop_cons HK2.out]; exact pairUp_odd hh'.out hp))
          have hp' := Hd hp
          clear H hB hJ hd hp
          go_wp2_with fail
          refine Hh.out.mono ?_
          rintro e w1 ⟨rfl, rfl⟩
          rw [hh'.out]
          go_wp2_with fail
          refine Hp.out.mono ?_
          rintro e w1 ⟨rfl, rfl⟩
          rw [hp'.out]
          go_wp2_with fail
          go_ret2
          exact join_ret hfin.out.1 hfin.out.2 hb
        · obtain ⟨done, hd, hB, hJ⟩ := H.out
          have hp' := Hd hp
          have hpp : 55296 ≤ z ∧ z < 56320 ∧ 56320 ≤ y ∧ y ≤ 57343 := by simpa [pairB] using hp
          obtain ⟨p1, p2, p3, p4⟩ := hpp
          have hJ' := Hd (hJ.two HK.out HK2.out h0 h1 hh'.out hp)
          have HW := Hd (writeRune w.heap.size w.heap.size (Lib.byteCells done) (65536 + 1024 * (z - 55296) + y - 56320) (by omega) (by omega) wr hB (by rw [Lib.byteCells_length]; omega) hb.size)
          clear H hB hJ hp
          go_wp2_with fail
          refine Hh.out.mono ?_
          rintro e w1 ⟨rfl, rfl⟩
          rw [hh'.out]
          go_wp2_with fail
          refine Hp.out.mono ?_
          rintro e w1 ⟨rfl, rfl⟩
          rw [hp'.out]
          go_wp2_with fail
          refine HW.out.mono ?_
          rintro e w2 ⟨rfl, hB2, hb2, _⟩
          rw [← Lib.byteCells_encodeRune, ← Lib.byteCells_append] at hB2
          go_wp2_with fail
          go_roundg (n - (k + 2))
          case measure => omega
          case rel => exact ⟨k + 2, by omega, by go_num, hb.trans hb2, Aside.intro ⟨_, by rw [List.length_append]; have := encode_len (65536 + 1024 * (z - 55296) + y - 56320); omega, .inr hB2, hJ'.out⟩⟩
theorem len_data (s : ByteArray) : s.data.toList.length = s.size := Array.length_toList
theorem ext_size (s : ByteArray) (k : Nat) : (s.extract k s.size).size = s.size - k := by simp
theorem ext_data (s : ByteArray) (k : Nat) : (s.extract k s.size).data.toList = s.data.toList.drop k := by
 simp [ByteArray.data_extract, Array.toList_extract, List.extract]
 rw [← len_data s]
 simp
 exact List.take_of_length_le (by simp)
theorem ext_take (s : ByteArray) (n : Nat) : (s.extract 0 n).data.toList = s.data.toList.take n := by
 simp [ByteArray.data_extract, Array.toList_extract, List.extract]
theorem drop_at (s : ByteArray) (k : Nat) (h : k < s.size) : s.data.toList.drop k = s[k] :: s.data.toList.drop (k + 1) := by
 have hl : k < s.data.toList.length := by rw [len_data]; exact h
 rw [List.drop_eq_getElem_cons hl]
 rfl
theorem cons_at (s : ByteArray) (h : 0 < s.size) : s.data.toList = s[0] :: s.data.toList.drop 1 := by
 have := drop_at s 0 h
 rwa [List.drop_zero] at this
theorem drop_all (s : ByteArray) (k : Nat) (h : s.size ≤ k) : s.data.toList.drop k = [] := List.drop_eq_nil_of_le (by rw [len_data]; exact h)
theorem nil_of_size {s : ByteArray} (h : s.size = 0) : s.data.toList = [] := List.eq_nil_of_length_eq_zero (by rw [len_data]; exact h)
theorem empty_yes {s : ByteArray} (h : s.size = 0) : s.toList.isEmpty = true := by
 rw [Lib.toList_data, nil_of_size h]; rfl
theorem empty_no {s : ByteArray} (h : 0 < s.size) : s.toList.isEmpty = false := by
 rw [Lib.toList_data, cons_at s h]; rfl
theorem size_mk (l : List UInt8) : (⟨l.toArray⟩ : ByteArray).size = l.length := by
 show l.toArray.size = _
 simp
theorem mk_of {s : ByteArray} {l : List UInt8} (h : s.data.toList = l) : (⟨l.toArray⟩ : ByteArray) = s := by subst h; simp
def headB (p : UInt8 → Bool) : List UInt8 → Bool
 | [] => false
 | b :: _ => p b
theorem ret_b {a b : Bool} {w : World} (h : a = b) : Ending.returned (.bool a) = .returned (.bool b) ∧ w = w := ⟨by rw [h], rfl⟩
theorem ret_i {a b : Int} (h : a = b) : Ending.returned (.int .i64 a) = .returned (.int .i64 b) := by rw [h]
theorem digU_and (b : UInt8) : digU b = (decide ((48 : Int) ≤ (b.toNat : Int)) && decide ((b.toNat : Int) ≤ (57 : Int))) := by unfold digU digB; rw [Bool.decide_and]
theorem tdigit_any (s : ByteArray) (w : World) : Calls Tryz.prog 224 #[.string s] w fun e w' => e = .returned (.bool (headB digU s.data.toList)) ∧ w = w' := by
 rcases Nat.eq_zero_or_pos s.size with h0 | h0
 · have hr : headB digU s.data.toList = false := by rw [nil_of_size h0]; rfl
   have he := empty_yes h0
   rw [hr]
   clear hr
   go_enter Tryz.func224, Tryz.ntmps224
   go_wp2
   go_ret
   exact ⟨rfl, rfl⟩
 · have hr : headB digU s.data.toList = digU s[0] := by rw [cons_at s h0]; rfl
   have he := empty_no h0
   rw [hr]
   have HD : Hid (digU s[0] = (decide ((48 : Int) ≤ (s[0].toNat : Int)) && decide ((s[0].toNat : Int) ≤ (57 : Int)))) := Hd (digU_and _)
   clear hr
   by_cases c1 : (48 : Int) ≤ (s[0].toNat : Int)
   · by_cases c2 : (s[0].toNat : Int) ≤ (57 : Int)
     · go_enter Tryz.func224, Tryz.ntmps224
       go_wp2
       go_ret
       exact ret_b (by rw [HD.out]; simp [c1, c2])
     · go_enter Tryz.func224, Tryz.ntmps224
       go_wp2
       go_ret
       exact ret_b (by rw [HD.out]; simp [c1, c2])
   · go_enter Tryz.func224, Tryz.ntmps224
     go_wp2
     go_ret
     exact ret_b (by rw [HD.out]; simp; omega)
theorem tletter_any (s : ByteArray) (w : World) : Calls Tryz.prog 223 #[.string s] w fun e w' => e = .returned (.bool (headB letU s.data.toList)) ∧ w = w' := by
 rcases Nat.eq_zero_or_pos s.size with h0 | h0
 · have hr : headB letU s.data.toList = false := by rw [nil_of_size h0]; rfl
   have he := empty_yes h0
   rw [hr]
   clear hr
   go_enter Tryz.func223, Tryz.ntmps223
   go_wp2
   go_ret
   exact ⟨rfl, rfl⟩
 · have hr : nameB (s.extract 0 1).data.toList = headB letU s.data.toList := by rw [ext_take, cons_at s h0]; simp [headB, nameB, tailB, letU]
   have he := empty_no h0
   have h1 : 1 ≤ s.size := h0
   have hN := name_any (s.extract 0 1) w (by simp; omega)
   rw [hr] at hN
   have HN := Hd hN
   clear hr hN
   go_enter Tryz.func223, Tryz.ntmps223
   go_wp2_with fail
   refine HN.out.mono ?_
   rintro e w1 ⟨rfl, rfl⟩
   go_wp2_with fail
   go_ret
   exact ⟨rfl, rfl⟩
theorem runL_no {l : List UInt8} (h : headB digU l = false) : runL l = 0 := by
 cases l with
 | nil => rfl
 | cons b t => unfold runL; rw [List.takeWhile_cons]; have : digU b = false := h; simp [this]
theorem runL_yes {b : UInt8} {t : List UInt8} (h : digU b = true) : runL (b :: t) = 1 + runL t := by
 unfold runL; rw [List.takeWhile_cons]; simp [h]; omega
set_option maxRecDepth 100000 in
theorem digits_any (s : ByteArray) (w : World) (hs : s.size ≤ 1100000) : Calls Tryz.prog 226 #[.string s] w fun e w' => e = .returned (.int .i64 (runL s.data.toList)) ∧ w = w' := by
 go_enter Tryz.func226, Tryz.ntmps226
 go_wp2
 go_loopg [3] s.size (fun g i wx => ∃ k : Nat, k + g = s.size ∧ i = .int .i64 k ∧ w = wx ∧ Aside (runL s.data.toList = k + runL (s.data.toList.drop k)))
 case atStart => exact ⟨0, by omega, rfl, rfl, Aside.intro (by simp)⟩
 case round =>
  obtain ⟨k, hk, rfl, rfl, H⟩ := hrel
  have hks : (k : Int) ≤ (s.size : Int) := by omega
  have hk0 : (0 : Int) ≤ (k : Int) := by omega
  have hD := tdigit_any (s.extract k s.size) w
  rw [ext_data] at hD
  have HD := Hd hD
  clear hD
  cases hb : headB digU (s.data.toList.drop k)
  · have hr := Hd (H.out.trans (by rw [runL_no hb]))
    have hb' := Hd hb
    clear H hb
    go_wp2_with fail
    refine HD.out.mono ?_
    rintro e w1 ⟨rfl, rfl⟩
    rw [hb'.out]
    go_wp2_with fail
    go_ret
    exact ⟨ret_i (by rw [hr.out]; simp), rfl⟩
  · have hkl : k < s.size := by
     rcases Nat.lt_or_ge k s.size with h | h
     · exact h
     · rw [drop_all s k h] at hb; cases hb
    have hr : Hid (runL s.data.toList = (k + 1 : Nat) + runL (s.data.toList.drop (k + 1))) := Hd (by
     rw [drop_at s k hkl] at hb
     rw [H.out, drop_at s k hkl, runL_yes hb]
     omega)
    have hb' := Hd hb
    clear H hb
    go_wp2_with fail
    refine HD.out.mono ?_
    rintro e w1 ⟨rfl, rfl⟩
    rw [hb'.out]
    go_wp2_with fail
    go_roundg (gk - 1)
    case measure => omega
    case rel => exact ⟨k + 1, by omega, by go_num, rfl, Aside.intro hr.out⟩
theorem pre_one (a : UInt8) (l : List UInt8) : pre [a] l = headB (fun b => b == a) l := by
 cases l with
 | nil => rfl
 | cons b t =>
   unfold pre headB
   rw [List.isPrefixOf_cons_cons]
   cases h : (b == a)
   · have h1 : b ≠ a := by simpa using h
     have h2 : (a == b) = false := by simpa using fun e => h1 e.symm
     simp [h1, h2]
   · have : b = a := by simpa using h
     subst this
     simp
theorem hasP (s q : ByteArray) (w : World) (b : Bool) (h : pre q.data.toList s.data.toList = b) : Calls Tryz.prog 199 #[.string s, .string q] w fun e w' => e = .returned (.bool b) ∧ w = w' :=
 (hasPrefix_any s q w).mono fun _ _ ⟨he, hw⟩ => ⟨by rw [he, ← h]; rfl, hw.symm⟩
theorem beqT {b c : UInt8} (h : (b == c) = true) (n : Int) (hn : (c.toNat : Int) = n) : ((b.toNat : Int) == n) = true ∧ ((b.toNat : Int) != n) = false := by
 have : b = c := by simpa using h
 subst this
 simp [hn]
theorem beqF {b c : UInt8} (h : (b == c) = false) (n : Int) (hn : (c.toNat : Int) = n) : ((b.toNat : Int) == n) = false ∧ ((b.toNat : Int) != n) = true := by
 have hne : b ≠ c := by simpa using h
 have : (b.toNat : Int) ≠ n := fun e => hne (UInt8.toNat_inj.1 (by omega))
 simp [this]
theorem digits_at (s : ByteArray) (k : Nat) (w : World) (hs : s.size ≤ 1100000) : Calls Tryz.prog 226 #[.string (s.extract k s.size)] w fun e w' => e = .returned (.int .i64 (runL (s.data.toList.drop k))) ∧ w = w' := by
 have h := digits_any (s.extract k s.size) w (by rw [ext_size]; omega)
 rwa [ext_data] at h
set_option maxRecDepth 100000 in
theorem fraction_any (s : ByteArray) (w : World) (hs : s.size ≤ 1100000) : Calls Tryz.prog 227 #[.string s] w fun e w' => e = .returned (.int .i64 (fracL s.data.toList)) ∧ w = w' := by
 cases hp : pre [46] s.data.toList
 · have HP := Hd (hasP s ⟨#[46]⟩ w false hp)
   have hr : Hid (fracL s.data.toList = 0) := Hd (by
     cases hl : s.data.toList with
     | nil => rfl
     | cons b t =>
       rw [hl] at hp
       have : (b == 46) = false := by
        cases hb : (b == 46)
        · rfl
        · have : b = 46 := by simpa using hb
          subst this
          cases hp
       simp only [fracL, this]
       rfl)
   clear hp
   go_enter Tryz.func227, Tryz.ntmps227
   go_wp2_with fail
   refine HP.out.mono ?_
   rintro e w1 ⟨rfl, rfl⟩
   go_wp2_with fail
   go_ret
   exact ⟨ret_i (by rw [hr.out]; rfl), rfl⟩
 · have HP := Hd (hasP s ⟨#[46]⟩ w true hp)
   have h0 : 1 ≤ s.size := by have := pre_len hp; rw [len_data] at this; exact this
   have h0' : (1 : Int) ≤ (s.size : Int) := by omega
   have hc : s[0] = 46 := by
     rw [cons_at s h0] at hp
     unfold pre at hp
     rw [List.isPrefixOf_cons_cons] at hp
     simp at hp
     exact hp.symm
   have hr : Hid (fracL s.data.toList = if runL (s.data.toList.drop 1) = 0 then 0 else 1 + runL (s.data.toList.drop 1)) := Hd (by
     rw [cons_at s h0, hc]; simp [fracL])
   have hD := digits_at s 1 w hs
   have hrl := runL_le (s.data.toList.drop 1)
   rw [List.length_drop, len_data] at hrl
   obtain ⟨r, hR⟩ : ∃ r, runL (s.data.toList.drop 1) = r := ⟨_, rfl⟩
   rw [hR] at hD hrl
   have HD := Hd hD
   have HR := Hd hR
   clear hp hc hD hR
   rcases Nat.eq_zero_or_pos r with hz | hz
   · have e0 : ((r : Int) == 0) = true := by simp; omega
     have hz' := Hd hz
     clear hz
     go_enter Tryz.func227, Tryz.ntmps227
     go_wp2_with fail
     refine HP.out.mono ?_
     rintro e w1 ⟨rfl, rfl⟩
     go_wp2_with fail
     refine HD.out.mono ?_
     rintro e w1 ⟨rfl, rfl⟩
     go_wp2_with fail
     go_ret
     exact ⟨ret_i (by rw [hr.out, HR.out, if_pos hz'.out]; rfl), rfl⟩
   · have e0 : ((r : Int) == 0) = false := by simp; omega
     have hz' := Hd hz
     clear hz
     go_enter Tryz.func227, Tryz.ntmps227
     go_wp2_with fail
     refine HP.out.mono ?_
     rintro e w1 ⟨rfl, rfl⟩
     go_wp2_with fail
     refine HD.out.mono ?_
     rintro e w1 ⟨rfl, rfl⟩
     go_wp2_with fail
     go_ret
     exact ⟨ret_i (by have := hz'.out; rw [hr.out, HR.out, if_neg (by omega)]; omega), rfl⟩
theorem expoL_at (s : ByteArray) (h : 0 < s.size) : expoL s.data.toList = if s[0] == 101 || s[0] == 69 then (if runL (s.data.toList.drop (1 + signL (s.data.toList.drop 1))) = 0 then 0 else 1 + signL (s.data.toList.drop 1) + runL (s.data.toList.drop (1 + signL (s.data.toList.drop 1)))) else 0 := by
 have e : ∀ k, s.data.toList.drop (1 + k) = (s.data.toList.drop 1).drop k := fun k => by rw [List.drop_drop]
 rw [e]
 conv => lhs; rw [cons_at s h]
 rfl
set_option maxRecDepth 100000 in
theorem exponent_any (s : ByteArray) (w : World) (hs : s.size ≤ 1100000) : Calls Tryz.prog 228 #[.string s] w fun e w' => e = .returned (.int .i64 (expoL s.data.toList)) ∧ w = w' := by
 rcases Nat.eq_zero_or_pos s.size with h0 | h0
 · have hr : Hid (expoL s.data.toList = 0) := Hd (by rw [nil_of_size h0]; rfl)
   have he := empty_yes h0
   go_enter Tryz.func228, Tryz.ntmps228
   go_wp2_with fail
   go_ret
   exact ⟨ret_i (by rw [hr.out]; rfl), rfl⟩
 have he := empty_no h0
 have HE := Hd (expoL_at s h0)
 have h0' : (0 : Int) < (s.size : Int) := by omega
 cases ha : (s[0] == 101)
 · obtain ⟨a1, a2⟩ := beqF ha 101 rfl
   cases hb : (s[0] == 69)
   · obtain ⟨b1, b2⟩ := beqF hb 69 rfl
     have hr : Hid (expoL s.data.toList = 0) := Hd (by rw [HE.out, ha, hb]; rfl)
     clear HE ha hb
     go_enter Tryz.func228, Tryz.ntmps228
     go_wp2_with fail
     go_ret
     exact ⟨ret_i (by rw [hr.out]; rfl), rfl⟩
   · obtain ⟨b1, b2⟩ := beqT hb 69 rfl
     have hE : Hid ((s[0] == 101 || s[0] == 69) = true) := Hd (by rw [hb, Bool.or_true])
     clear ha hb
     by_cases h1 : 1 < s.size
     · have h1' : (1 : Int) < (s.size : Int) := by omega
       have hcons := drop_at s 1 h1
       cases hp : (s[1] == 43)
       · obtain ⟨p1, p2⟩ := beqF hp 43 rfl
         cases hm : (s[1] == 45)
         · obtain ⟨m1, m2⟩ := beqF hm 45 rfl
           have hsg : signL (s.data.toList.drop 1) = 0 := by rw [hcons]; simp [signL, hp, hm]
           clear hcons hp hm
           have hr : Hid (expoL s.data.toList = if runL (s.data.toList.drop 1) = 0 then 0 else 1 + runL (s.data.toList.drop 1)) := Hd (by rw [HE.out, hsg, if_pos hE.out])
           have hD := digits_at s 1 w hs
           have hrl := runL_le (s.data.toList.drop 1)
           rw [List.length_drop, len_data] at hrl
           obtain ⟨r, hR⟩ : ∃ r, runL (s.data.toList.drop 1) = r := ⟨_, rfl⟩
           rw [hR] at hD hrl
           have HD := Hd hD
           have HR := Hd hR
           clear hsg HE hE hD hR
           rcases Nat.eq_zero_or_pos r with hz | hz
           · have e0 : ((r : Int) == 0) = true := by simp; omega
             have hz' := Hd hz
             clear hz
             go_enter Tryz.func228, Tryz.ntmps228
             go_wp2_with fail
             refine HD.out.mono ?_
             rintro e w1 ⟨rfl, rfl⟩
             go_wp2_with fail
             go_ret
             exact ⟨ret_i (by rw [hr.out, HR.out, if_pos hz'.out]; rfl), rfl⟩
           · have e0 : ((r : Int) == 0) = false := by simp; omega
             have hz' := Hd hz
             clear hz
             go_enter Tryz.func228, Tryz.ntmps228
             go_wp2_with fail
             refine HD.out.mono ?_
             rintro e w1 ⟨rfl, rfl⟩
             go_wp2_with fail
             go_ret
             exact ⟨ret_i (by have := hz'.out; rw [hr.out, HR.out, if_neg (by omega)]; omega), rfl⟩
         · obtain ⟨m1, m2⟩ := beqT hm 45 rfl
           have hsg : signL (s.data.toList.drop 1) = 1 := by rw [hcons]; simp [signL, hp, hm]
           clear hcons hp hm
           have hr : Hid (expoL s.data.toList = if runL (s.data.toList.drop 2) = 0 then 0 else 2 + runL (s.data.toList.drop 2)) := Hd (by rw [HE.out, hsg, if_pos hE.out])
           have hD := digits_at s 2 w hs
           have hrl := runL_le (s.data.toList.drop 2)
           rw [List.length_drop, len_data] at hrl
           obtain ⟨r, hR⟩ : ∃ r, runL (s.data.toList.drop 2) = r := ⟨_, rfl⟩
           rw [hR] at hD hrl
           have HD := Hd hD
           have HR := Hd hR
           clear hsg HE hE hD hR
           rcases Nat.eq_zero_or_pos r with hz | hz
           · have e0 : ((r : Int) == 0) = true := by simp; omega
             have hz' := Hd hz
             clear hz
             go_enter Tryz.func228, Tryz.ntmps228
             go_wp2_with fail
             refine HD.out.mono ?_
             rintro e w1 ⟨rfl, rfl⟩
             go_wp2_with fail
             go_ret
             exact ⟨ret_i (by rw [hr.out, HR.out, if_pos hz'.out]; rfl), rfl⟩
           · have e0 : ((r : Int) == 0) = false := by simp; omega
             have hz' := Hd hz
             clear hz
             go_enter Tryz.func228, Tryz.ntmps228
             go_wp2_with fail
             refine HD.out.mono ?_
             rintro e w1 ⟨rfl, rfl⟩
             go_wp2_with fail
             go_ret
             exact ⟨ret_i (by have := hz'.out; rw [hr.out, HR.out, if_neg (by omega)]; omega), rfl⟩
       · obtain ⟨p1, p2⟩ := beqT hp 43 rfl
         have hsg : signL (s.data.toList.drop 1) = 1 := by rw [hcons]; simp [signL, hp]
         clear hcons hp
         have hr : Hid (expoL s.data.toList = if runL (s.data.toList.drop 2) = 0 then 0 else 2 + runL (s.data.toList.drop 2)) := Hd (by rw [HE.out, hsg, if_pos hE.out])
         have hD := digits_at s 2 w hs
         have hrl := runL_le (s.data.toList.drop 2)
         rw [List.length_drop, len_data] at hrl
         obtain ⟨r, hR⟩ : ∃ r, runL (s.data.toList.drop 2) = r := ⟨_, rfl⟩
         rw [hR] at hD hrl
         have HD := Hd hD
         have HR := Hd hR
         clear hsg HE hE hD hR
         rcases Nat.eq_zero_or_pos r with hz | hz
         · have e0 : ((r : Int) == 0) = true := by simp; omega
           have hz' := Hd hz
           clear hz
           go_enter Tryz.func228, Tryz.ntmps228
           go_wp2_with fail
           refine HD.out.mono ?_
           rintro e w1 ⟨rfl, rfl⟩
           go_wp2_with fail
           go_ret
           exact ⟨ret_i (by rw [hr.out, HR.out, if_pos hz'.out]; rfl), rfl⟩
         · have e0 : ((r : Int) == 0) = false := by simp; omega
           have hz' := Hd hz
           clear hz
           go_enter Tryz.func228, Tryz.ntmps228
           go_wp2_with fail
           refine HD.out.mono ?_
           rintro e w1 ⟨rfl, rfl⟩
           go_wp2_with fail
           go_ret
           exact ⟨ret_i (by have := hz'.out; rw [hr.out, HR.out, if_neg (by omega)]; omega), rfl⟩
     · have h1' : ¬ ((1 : Int) < (s.size : Int)) := by omega
       have hsg : signL (s.data.toList.drop 1) = 0 := by rw [drop_all s 1 (by omega)]; rfl
       have hr : Hid (expoL s.data.toList = if runL (s.data.toList.drop 1) = 0 then 0 else 1 + runL (s.data.toList.drop 1)) := Hd (by rw [HE.out, hsg, if_pos hE.out])
       have hD := digits_at s 1 w hs
       have hrl := runL_le (s.data.toList.drop 1)
       rw [List.length_drop, len_data] at hrl
       obtain ⟨r, hR⟩ : ∃ r, runL (s.data.toList.drop 1) = r := ⟨_, rfl⟩
       rw [hR] at hD hrl
       have HD := Hd hD
       have HR := Hd hR
       clear hsg HE hE hD hR
       rcases Nat.eq_zero_or_pos r with hz | hz
       · have e0 : ((r : Int) == 0) = true := by simp; omega
         have hz' := Hd hz
         clear hz
         go_enter Tryz.func228, Tryz.ntmps228
         go_wp2_with fail
         refine HD.out.mono ?_
         rintro e w1 ⟨rfl, rfl⟩
         go_wp2_with fail
         go_ret
         exact ⟨ret_i (by rw [hr.out, HR.out, if_pos hz'.out]; rfl), rfl⟩
       · have e0 : ((r : Int) == 0) = false := by simp; omega
         have hz' := Hd hz
         clear hz
         go_enter Tryz.func228, Tryz.ntmps228
         go_wp2_with fail
         refine HD.out.mono ?_
         rintro e w1 ⟨rfl, rfl⟩
         go_wp2_with fail
         go_ret
         exact ⟨ret_i (by have := hz'.out; rw [hr.out, HR.out, if_neg (by omega)]; omega), rfl⟩
 · obtain ⟨a1, a2⟩ := beqT ha 101 rfl
   have hE : Hid ((s[0] == 101 || s[0] == 69) = true) := Hd (by rw [ha, Bool.true_or])
   clear ha
   by_cases h1 : 1 < s.size
   · have h1' : (1 : Int) < (s.size : Int) := by omega
     have hcons := drop_at s 1 h1
     cases hp : (s[1] == 43)
     · obtain ⟨p1, p2⟩ := beqF hp 43 rfl
       cases hm : (s[1] == 45)
       · obtain ⟨m1, m2⟩ := beqF hm 45 rfl
         have hsg : signL (s.data.toList.drop 1) = 0 := by rw [hcons]; simp [signL, hp, hm]
         clear hcons hp hm
         have hr : Hid (expoL s.data.toList = if runL (s.data.toList.drop 1) = 0 then 0 else 1 + runL (s.data.toList.drop 1)) := Hd (by rw [HE.out, hsg, if_pos hE.out])
         have hD := digits_at s 1 w hs
         have hrl := runL_le (s.data.toList.drop 1)
         rw [List.length_drop, len_data] at hrl
         obtain ⟨r, hR⟩ : ∃ r, runL (s.data.toList.drop 1) = r := ⟨_, rfl⟩
         rw [hR] at hD hrl
         have HD := Hd hD
         have HR := Hd hR
         clear hsg HE hE hD hR
         rcases Nat.eq_zero_or_pos r with hz | hz
         · have e0 : ((r : Int) == 0) = true := by simp; omega
           have hz' := Hd hz
           clear hz
           go_enter Tryz.func228, Tryz.ntmps228
           go_wp2_with fail
           refine HD.out.mono ?_
           rintro e w1 ⟨rfl, rfl⟩
           go_wp2_with fail
           go_ret
           exact ⟨ret_i (by rw [hr.out, HR.out, if_pos hz'.out]; rfl), rfl⟩
         · have e0 : ((r : Int) == 0) = false := by simp; omega
           have hz' := Hd hz
           clear hz
           go_enter Tryz.func228, Tryz.ntmps228
           go_wp2_with fail
           refine HD.out.mono ?_
           rintro e w1 ⟨rfl, rfl⟩
           go_wp2_with fail
           go_ret
           exact ⟨ret_i (by have := hz'.out; rw [hr.out, HR.out, if_neg (by omega)]; omega), rfl⟩
       · obtain ⟨m1, m2⟩ := beqT hm 45 rfl
         have hsg : signL (s.data.toList.drop 1) = 1 := by rw [hcons]; simp [signL, hp, hm]
         clear hcons hp hm
         have hr : Hid (expoL s.data.toList = if runL (s.data.toList.drop 2) = 0 then 0 else 2 + runL (s.data.toList.drop 2)) := Hd (by rw [HE.out, hsg, if_pos hE.out])
         have hD := digits_at s 2 w hs
         have hrl := runL_le (s.data.toList.drop 2)
         rw [List.length_drop, len_data] at hrl
         obtain ⟨r, hR⟩ : ∃ r, runL (s.data.toList.drop 2) = r := ⟨_, rfl⟩
         rw [hR] at hD hrl
         have HD := Hd hD
         have HR := Hd hR
         clear hsg HE hE hD hR
         rcases Nat.eq_zero_or_pos r with hz | hz
         · have e0 : ((r : Int) == 0) = true := by simp; omega
           have hz' := Hd hz
           clear hz
           go_enter Tryz.func228, Tryz.ntmps228
           go_wp2_with fail
           refine HD.out.mono ?_
           rintro e w1 ⟨rfl, rfl⟩
           go_wp2_with fail
           go_ret
           exact ⟨ret_i (by rw [hr.out, HR.out, if_pos hz'.out]; rfl), rfl⟩
         · have e0 : ((r : Int) == 0) = false := by simp; omega
           have hz' := Hd hz
           clear hz
           go_enter Tryz.func228, Tryz.ntmps228
           go_wp2_with fail
           refine HD.out.mono ?_
           rintro e w1 ⟨rfl, rfl⟩
           go_wp2_with fail
           go_ret
           exact ⟨ret_i (by have := hz'.out; rw [hr.out, HR.out, if_neg (by omega)]; omega), rfl⟩
     · obtain ⟨p1, p2⟩ := beqT hp 43 rfl
       have hsg : signL (s.data.toList.drop 1) = 1 := by rw [hcons]; simp [signL, hp]
       clear hcons hp
       have hr : Hid (expoL s.data.toList = if runL (s.data.toList.drop 2) = 0 then 0 else 2 + runL (s.data.toList.drop 2)) := Hd (by rw [HE.out, hsg, if_pos hE.out])
       have hD := digits_at s 2 w hs
       have hrl := runL_le (s.data.toList.drop 2)
       rw [List.length_drop, len_data] at hrl
       obtain ⟨r, hR⟩ : ∃ r, runL (s.data.toList.drop 2) = r := ⟨_, rfl⟩
       rw [hR] at hD hrl
       have HD := Hd hD
       have HR := Hd hR
       clear hsg HE hE hD hR
       rcases Nat.eq_zero_or_pos r with hz | hz
       · have e0 : ((r : Int) == 0) = true := by simp; omega
         have hz' := Hd hz
         clear hz
         go_enter Tryz.func228, Tryz.ntmps228
         go_wp2_with fail
         refine HD.out.mono ?_
         rintro e w1 ⟨rfl, rfl⟩
         go_wp2_with fail
         go_ret
         exact ⟨ret_i (by rw [hr.out, HR.out, if_pos hz'.out]; rfl), rfl⟩
       · have e0 : ((r : Int) == 0) = false := by simp; omega
         have hz' := Hd hz
         clear hz
         go_enter Tryz.func228, Tryz.ntmps228
         go_wp2_with fail
         refine HD.out.mono ?_
         rintro e w1 ⟨rfl, rfl⟩
         go_wp2_with fail
         go_ret
         exact ⟨ret_i (by have := hz'.out; rw [hr.out, HR.out, if_neg (by omega)]; omega), rfl⟩
   · have h1' : ¬ ((1 : Int) < (s.size : Int)) := by omega
     have hsg : signL (s.data.toList.drop 1) = 0 := by rw [drop_all s 1 (by omega)]; rfl
     have hr : Hid (expoL s.data.toList = if runL (s.data.toList.drop 1) = 0 then 0 else 1 + runL (s.data.toList.drop 1)) := Hd (by rw [HE.out, hsg, if_pos hE.out])
     have hD := digits_at s 1 w hs
     have hrl := runL_le (s.data.toList.drop 1)
     rw [List.length_drop, len_data] at hrl
     obtain ⟨r, hR⟩ : ∃ r, runL (s.data.toList.drop 1) = r := ⟨_, rfl⟩
     rw [hR] at hD hrl
     have HD := Hd hD
     have HR := Hd hR
     clear hsg HE hE hD hR
     rcases Nat.eq_zero_or_pos r with hz | hz
     · have e0 : ((r : Int) == 0) = true := by simp; omega
       have hz' := Hd hz
       clear hz
       go_enter Tryz.func228, Tryz.ntmps228
       go_wp2_with fail
       refine HD.out.mono ?_
       rintro e w1 ⟨rfl, rfl⟩
       go_wp2_with fail
       go_ret
       exact ⟨ret_i (by rw [hr.out, HR.out, if_pos hz'.out]; rfl), rfl⟩
     · have e0 : ((r : Int) == 0) = false := by simp; omega
       have hz' := Hd hz
       clear hz
       go_enter Tryz.func228, Tryz.ntmps228
       go_wp2_with fail
       refine HD.out.mono ?_
       rintro e w1 ⟨rfl, rfl⟩
       go_wp2_with fail
       go_ret
       exact ⟨ret_i (by have := hz'.out; rw [hr.out, HR.out, if_neg (by omega)]; omega), rfl⟩
theorem ret_tok {R : Ending → World → Prop} {fn : Func} {a : Act} {W : World} {k v : Value} {b : Nat} (hf : fn.results = #[.cell 2 70, .tmp 3]) (h2 : a.tmps.getD 2 undef = .pointer (some ⟨b, 0, none⟩)) (hd : a.defers = [])
  (hc : W.heap[b]? = some (.cells #[k, v] 70 (0, 0))) (hR : R (.returned (.tuple #[.agg #[k, v], a.tmps.getD 3 undef])) W) : bodyPost Tryz.prog fn R .ret a W := by
 have hl : (loadVar 70 ⟨b, 0, none⟩).run Tryz.prog W = .ok (.agg #[k, v]) W :=
  run_loadVar_row W b 70 70 #[k, v] (0, 0) _ hc Tryz.underlying70 rfl (by kernel_rfl)
 refine bodyPost_ret ?_ hd hR
 have h2' : a.tmps[2]?.getD undef = .pointer (some ⟨b, 0, none⟩) := by rw [← h2]; simp
 simp [results, hf, h2', asAddr, hl]
theorem below_new {w : World} {cs : Array Value} {t : TypeId} : Below w.heap.size w (w.alloc (.cells cs t)) := (Below.refl _ _).alloc (Nat.le_refl _) _
theorem ret_t {k n m : Int} {x y : ByteArray} (hx : x = y) (h : n = m) : Ending.returned (.tuple #[.agg #[.int .i64 k, .string x], .int .i64 n]) = .returned (.tuple #[.agg #[.int .i64 k, .string y], .int .i64 m]) := by rw [hx, h]
def tokS (k : Int) (l : List UInt8) (n : Nat) : Value := if n = 0 then .tuple #[.agg #[.int .i64 0, .string ⟨#[]⟩], .int .i64 0] else .tuple #[.agg #[.int .i64 k, .string ⟨l.toArray⟩], .int .i64 n]
theorem tokS_no (k : Int) (l : List UInt8) : tokS k l 0 = .tuple #[.agg #[.int .i64 0, .string ⟨#[]⟩], .int .i64 0] := rfl
theorem tokS_yes {k : Int} {l : List UInt8} {n : Nat} (h : n ≠ 0) : tokS k l n = .tuple #[.agg #[.int .i64 k, .string ⟨l.toArray⟩], .int .i64 n] := if_neg h
theorem idx_marks : ∀ b : UInt8, decide (Lib.indexByte [33, 36, 38, 40, 41, 58, 61, 64, 91, 93, 123, 124, 125] b < 0) = !isMark b := byte_all (by decide +kernel)
set_option maxRecDepth 100000 in
theorem mark_any (s : ByteArray) (w : World) : Calls Tryz.prog 137 #[.string s] w fun e w' => e = .returned (tokS 1 (s.data.toList.take (markN s.data.toList)) (markN s.data.toList)) ∧ Below w.heap.size w w' := by
 cases hp : pre [46, 46, 46] s.data.toList
 · have HP := Hd (hasP s ⟨#[46, 46, 46]⟩ (w.alloc (.cells #[.int .i64 0, .string ⟨#[]⟩] 70)) false hp)
   rcases Nat.eq_zero_or_pos s.size with h0 | h0
   · have hr : Hid (markN s.data.toList = 0) := Hd (by rw [nil_of_size h0]; rfl)
     have he := empty_yes h0
     clear hp
     go_enter Tryz.func137, Tryz.ntmps137
     go_wp2_with fail
     refine HP.out.mono ?_
     rintro e w1 ⟨rfl, rfl⟩
     go_wp2_with fail
     refine ret_tok rfl rfl rfl (heap_alloc_last _ _) ⟨?_, below_new⟩
     rw [hr.out]
     rfl
   · have he := empty_no h0
     have hm : markN s.data.toList = if isMark s[0] then 1 else 0 := by
       rw [cons_at s h0] at hp ⊢
       simp only [markN, hp]
       rfl
     have hI := indexByte_any ⟨#[33, 36, 38, 40, 41, 58, 61, 64, 91, 93, 123, 124, 125]⟩ (s[0].toNat : Int) (w.alloc (.cells #[.int .i64 0, .string ⟨#[]⟩] 70))
     have hx := idx_marks s[0]
     rw [show ((s[0].toNat : Int).toNat.toUInt8) = s[0] by simp] at hI
     obtain ⟨r, hR⟩ : ∃ r, Lib.indexByte (⟨#[33, 36, 38, 40, 41, 58, 61, 64, 91, 93, 123, 124, 125]⟩ : ByteArray).data.toList s[0] = r := ⟨_, rfl⟩
     rw [hR] at hI
     have hx' : decide (r < 0) = !isMark s[0] := by rw [← hR]; exact hx
     have HI := Hd hI
     clear hx hI hR hp
     cases hb : isMark s[0]
     · have hr : Hid (markN s.data.toList = 0) := Hd (by rw [hm, hb]; rfl)
       have hneg : r < 0 := by rw [hb] at hx'; simpa using hx'
       clear hm hb hx'
       go_enter Tryz.func137, Tryz.ntmps137
       go_wp2_with fail
       refine HP.out.mono ?_
       rintro e w1 ⟨rfl, rfl⟩
       go_wp2_with fail
       refine HI.out.mono ?_
       rintro e w1 ⟨rfl, rfl⟩
       go_wp2_with fail
       refine ret_tok rfl rfl rfl (heap_alloc_last _ _) ⟨?_, below_new⟩
       rw [hr.out]
       rfl
     · have hr : Hid (markN s.data.toList = 1) := Hd (by rw [hm, hb]; rfl)
       have hneg : ¬ r < 0 := by rw [hb] at hx'; simpa using hx'
       have h1 : 1 ≤ s.size := h0
       clear hm hb hx'
       go_enter Tryz.func137, Tryz.ntmps137
       go_wp2_with fail
       refine HP.out.mono ?_
       rintro e w1 ⟨rfl, rfl⟩
       go_wp2_with fail
       refine HI.out.mono ?_
       rintro e w1 ⟨rfl, rfl⟩
       go_wp2_with fail
       refine ret_tok rfl rfl rfl (heap_alloc_last _ _) ⟨?_, below_new⟩
       rw [hr.out, tokS_yes (by omega)]
       exact ret_t (mk_of (ext_take s 1)).symm rfl
 · have HP := Hd (hasP s ⟨#[46, 46, 46]⟩ (w.alloc (.cells #[.int .i64 0, .string ⟨#[]⟩] 70)) true hp)
   have hr : Hid (markN s.data.toList = 3 ∧ s.data.toList.take 3 = [46, 46, 46]) := Hd (by
     have h3 := pre_len hp
     rw [len_data] at h3
     refine ⟨?_, ?_⟩
     · have h0 : 0 < s.size := by simp at h3; omega
       rw [cons_at s h0] at hp ⊢
       simp only [markN, hp]
       rfl
     · unfold pre at hp
       rw [List.isPrefixOf_iff_prefix] at hp
       exact (List.prefix_iff_eq_take.1 hp).symm)
   clear hp
   go_enter Tryz.func137, Tryz.ntmps137
   go_wp2_with fail
   refine HP.out.mono ?_
   rintro e w1 ⟨rfl, rfl⟩
   go_wp2_with fail
   refine ret_tok rfl rfl rfl (heap_alloc_last _ _) ⟨?_, below_new⟩
   rw [hr.out.1, hr.out.2, tokS_yes (by omega)]
   rfl
def wordTo (l : List UInt8) (k : Nat) : Prop := k = 0 ∨ wordN l = k + ((l.drop k).takeWhile nameU).length
theorem wordTo_start {l : List UInt8} (h : headB letU l = true) : wordTo l 1 := by
 cases l with
 | nil => cases h
 | cons b t =>
   have h' : letU b = true := h
   refine .inr ?_
   simp [wordN, h']
theorem wordTo_none {l : List UInt8} (h : headB letU l = false) : wordN l = 0 := by
 cases l with
 | nil => rfl
 | cons b t =>
   have h' : letU b = false := h
   simp [wordN, h']
theorem wordTo_next {l : List UInt8} {k : Nat} (h : wordTo l k) (hk : k ≠ 0) (hb : headB nameU (l.drop k) = true) : wordTo l (k + 1) := by
 rcases h with h | h
 · exact absurd h hk
 refine .inr ?_
 rw [h, show k + 1 = k + 1 from rfl, ← List.drop_drop]
 cases hl : l.drop k with
 | nil => rw [hl] at hb; cases hb
 | cons b t =>
   rw [hl] at hb
   have hb' : nameU b = true := hb
   rw [List.takeWhile_cons]
   simp [hb']
   omega
theorem wordTo_end {l : List UInt8} {k : Nat} (h : wordTo l k) (hk : k ≠ 0) (hb : headB nameU (l.drop k) = false) : wordN l = k := by
 rcases h with h | h
 · exact absurd h hk
 rw [h]
 cases hl : l.drop k with
 | nil => simp
 | cons b t =>
   rw [hl] at hb
   have hb' : nameU b = false := hb
   rw [List.takeWhile_cons]
   simp [hb']
theorem head_or (l : List UInt8) : headB nameU l = (headB letU l || headB digU l) := by
 cases l <;> rfl
theorem tletter_at (s : ByteArray) (k : Nat) (w : World) : Calls Tryz.prog 223 #[.string (s.extract k s.size)] w fun e w' => e = .returned (.bool (headB letU (s.data.toList.drop k))) ∧ w = w' := by
 have h := tletter_any (s.extract k s.size) w
 rwa [ext_data] at h
theorem tdigit_at (s : ByteArray) (k : Nat) (w : World) : Calls Tryz.prog 224 #[.string (s.extract k s.size)] w fun e w' => e = .returned (.bool (headB digU (s.data.toList.drop k))) ∧ w = w' := by
 have h := tdigit_any (s.extract k s.size) w
 rwa [ext_data] at h
theorem head_lt {s : ByteArray} {k : Nat} {p : UInt8 → Bool} (h : headB p (s.data.toList.drop k) = true) : k < s.size := by
 rcases Nat.lt_or_ge k s.size with h' | h'
 · exact h'
 · rw [drop_all s k h'] at h; cases h
set_option maxRecDepth 100000 in
theorem word_any (s : ByteArray) (w : World) (hs : s.size ≤ 1100000) : Calls Tryz.prog 166 #[.string s] w fun e w' => e = .returned (tokS 2 (s.data.toList.take (wordN s.data.toList)) (wordN s.data.toList)) ∧ Below w.heap.size w w' := by
 go_enter Tryz.func166, Tryz.ntmps166
 go_wp2
 go_loopg [4] s.size (fun g i wx => ∃ k : Nat, k + g = s.size ∧ i = .int .i64 k ∧ wx = w.alloc (.cells #[.int .i64 0, .string ⟨#[]⟩] 70) ∧ Aside (wordTo s.data.toList k))
 case atStart => exact ⟨0, by omega, rfl, rfl, Aside.intro (.inl rfl)⟩
 case round =>
  obtain ⟨k, hk, rfl, rfl, H⟩ := hrel
  have hks : (k : Int) ≤ (s.size : Int) := by omega
  have hk0 : (0 : Int) ≤ (k : Int) := by omega
  have HL := Hd (tletter_at s k (w.alloc (.cells #[.int .i64 0, .string ⟨#[]⟩] 70)))
  have HD := Hd (tdigit_at s k (w.alloc (.cells #[.int .i64 0, .string ⟨#[]⟩] 70)))
  cases hb : headB letU (s.data.toList.drop k)
  · rcases Nat.eq_zero_or_pos k with hz | hz
    · have hr : Hid (wordN s.data.toList = 0) := Hd (wordTo_none (by rwa [hz, List.drop_zero] at hb))
      have hb' := Hd hb
      have e0 : ((k : Int) == 0) = true := by simp; omega
      have e1 : ¬ (0 : Int) < (k : Int) := by omega
      clear H hb hz
      go_wp2_with fail
      refine HL.out.mono ?_
      rintro e w1 ⟨rfl, rfl⟩
      rw [hb'.out]
      go_wp2_with fail
      refine ret_tok rfl rfl rfl (heap_alloc_last _ _) ⟨?_, below_new⟩
      rw [hr.out]
      rfl
    · have hz' : (0 : Int) < (k : Int) := by omega
      cases hd : headB digU (s.data.toList.drop k)
      · have hr : Hid (wordN s.data.toList = k) := Hd (wordTo_end H.out (by omega) (by rw [head_or, hb, hd]; rfl))
        have hb' := Hd hb
        have hd' := Hd hd
        have e0 : ((k : Int) == 0) = false := by simp; omega
        clear H hb hd
        go_wp2_with fail
        refine HL.out.mono ?_
        rintro e w1 ⟨rfl, rfl⟩
        rw [hb'.out]
        go_wp2_with fail
        refine HD.out.mono ?_
        rintro e w1 ⟨rfl, rfl⟩
        rw [hd'.out]
        go_wp2_with fail
        refine ret_tok rfl rfl rfl (heap_alloc_last _ _) ⟨?_, below_new⟩
        rw [hr.out, tokS_yes (by omega)]
        exact ret_t (mk_of (ext_take s k)).symm rfl
      · have hlt := head_lt hd
        have hr := Hd (wordTo_next H.out (by omega) (by rw [head_or, hb, hd]; rfl))
        have hb' := Hd hb
        have hd' := Hd hd
        clear H hb hd
        go_wp2_with fail
        refine HL.out.mono ?_
        rintro e w1 ⟨rfl, rfl⟩
        rw [hb'.out]
        go_wp2_with fail
        refine HD.out.mono ?_
        rintro e w1 ⟨rfl, rfl⟩
        rw [hd'.out]
        go_wp2_with fail
        go_roundg (gk - 1)
        case measure => omega
        case rel => exact ⟨k + 1, by omega, by go_num, rfl, Aside.intro hr.out⟩
  · have hlt := head_lt hb
    have hr : Hid (wordTo s.data.toList (k + 1)) := Hd (by
      rcases Nat.eq_zero_or_pos k with hz | hz
      · subst hz
        exact wordTo_start (by rwa [List.drop_zero] at hb)
      · exact wordTo_next H.out (by omega) (by rw [head_or, hb]; rfl))
    have hb' := Hd hb
    clear H hb
    go_wp2_with fail
    refine HL.out.mono ?_
    rintro e w1 ⟨rfl, rfl⟩
    rw [hb'.out]
    go_wp2_with fail
    go_roundg (gk - 1)
    case measure => omega
    case rel => exact ⟨k + 1, by omega, by go_num, rfl, Aside.intro hr.out⟩
theorem frac_at (s : ByteArray) (k : Nat) (w : World) (hs : s.size ≤ 1100000) : Calls Tryz.prog 227 #[.string (s.extract k s.size)] w fun e w' => e = .returned (.int .i64 (fracL (s.data.toList.drop k))) ∧ w = w' := by
 have h := fraction_any (s.extract k s.size) w (by rw [ext_size]; omega)
 rwa [ext_data] at h
theorem expo_at (s : ByteArray) (k : Nat) (w : World) (hs : s.size ≤ 1100000) : Calls Tryz.prog 228 #[.string (s.extract k s.size)] w fun e w' => e = .returned (.int .i64 (expoL (s.data.toList.drop k))) ∧ w = w' := by
 have h := exponent_any (s.extract k s.size) w (by rw [ext_size]; omega)
 rwa [ext_data] at h
theorem dot_at (s : ByteArray) (k : Nat) (w : World) (b : Bool) (h : headB (fun b => b == 46) (s.data.toList.drop k) = b) : Calls Tryz.prog 199 #[.string (s.extract k s.size), .string ⟨#[46]⟩] w fun e w' => e = .returned (.bool b) ∧ w = w' :=
 hasP (s.extract k s.size) ⟨#[46]⟩ w b (by rw [ext_data]; exact (pre_one 46 _).trans h)
theorem minusL_head (l : List UInt8) : minusL l = if headB (fun b => b == 45) l then 1 else 0 := by cases l <;> rfl
theorem minus_trim (s : ByteArray) (w : World) : ∃ t : ByteArray, t.size + minusL s.data.toList = s.size ∧ Calls Tryz.prog 225 #[.string s, .string ⟨#[45]⟩] w fun e w' => e = .returned (.string t) ∧ w = w' := by
 refine ⟨⟨(Lib.trimPrefix s.data.toList [45]).toArray⟩, ?_, (trimPrefix_any s ⟨#[45]⟩ w).mono fun _ _ ⟨he, hw⟩ => ⟨he, hw.symm⟩⟩
 rw [size_mk, minusL_head]
 have hl := len_data s
 cases hb : headB (fun b => b == 45) s.data.toList
 · rw [show Lib.trimPrefix s.data.toList [45] = s.data.toList from if_neg (by show ¬ pre [45] s.data.toList = true; rw [pre_one, hb]; simp)]
   simp [hl]
 · rw [show Lib.trimPrefix s.data.toList [45] = s.data.toList.drop 1 from if_pos (by show pre [45] s.data.toList = true; rw [pre_one, hb])]
   have : s.data.toList ≠ [] := by intro e; rw [e] at hb; cases hb
   have : s.data.toList.length ≠ 0 := fun e => this (List.eq_nil_of_length_eq_zero e)
   rw [List.length_drop]
   simp only [if_true]
   omega
theorem whole_run (l : List UInt8) : wholeL l = 0 ↔ runL l = 0 := by
 cases l with
 | nil => simp [wholeL, runL]
 | cons b t =>
   simp only [wholeL]
   split
   · rename_i h
     have : b = 48 := by simpa using h
     subst this
     rw [runL_yes (by decide)]
     omega
   · exact Iff.rfl
theorem number_mid {l : List UInt8} {m W f x K K2 N : Nat} (hm : minusL l = m) (hW : wholeL (l.drop m) = W) (h0 : W ≠ 0) (hK : m + W = K) (hf : fracL (l.drop K) = f) (hK2 : K + f = K2) (hx : expoL (l.drop K2) = x) (hN : K2 + x = N) :
  nmL l = (N, if f = 0 ∧ x = 0 then 3 else 4) := by
 unfold nmL
 subst hm hW hK hf hK2 hx hN
 rw [if_neg h0]
theorem behind_head (l : List UInt8) : behindB l = (headB digU l || headB letU l || headB (fun b => b == 46) l) := by cases l <;> rfl
theorem number_bad {l : List UInt8} {N : Nat} {k : Int} (h : nmL l = (N, k)) (hb : behindB (l.drop N) = true) : nbL l = (0, 0) := by
 unfold nbL
 rw [h]
 simp only [hb]
 split <;> rfl
theorem number_good {l : List UInt8} {N : Nat} {k : Int} (h : nmL l = (N, k)) (h0 : N ≠ 0) (hb : behindB (l.drop N) = false) : nbL l = (N, k) := by
 unfold nbL
 rw [h]
 simp [hb, h0]
abbrev tok0 : Obj := .cells #[.int .i64 0, .string ⟨#[]⟩] 70
set_option maxRecDepth 100000 in
set_option maxHeartbeats 1000000 in
theorem number_any (s : ByteArray) (w : World) (hs : s.size ≤ 1100000) : Calls Tryz.prog 167 #[.string s] w fun e w' => e = .returned (tokS (nbL s.data.toList).2 (s.data.toList.take (nbL s.data.toList).1) (nbL s.data.toList).1) ∧ Below w.heap.size w w' := by
 obtain ⟨t, ht, hT⟩ := minus_trim s (w.alloc tok0)
 have hml := minusL_le s.data.toList
 rw [len_data] at hml
 obtain ⟨m, hM⟩ : ∃ m, minusL s.data.toList = m := ⟨_, rfl⟩
 rw [hM] at ht hml
 have hD := digits_at s m (w.alloc tok0) hs
 have hrl := runL_le (s.data.toList.drop m)
 rw [List.length_drop, len_data] at hrl
 have hwr := whole_run (s.data.toList.drop m)
 obtain ⟨r, hR⟩ : ∃ r, runL (s.data.toList.drop m) = r := ⟨_, rfl⟩
 rw [hR] at hD hrl hwr
 have E0 : (s.size : Int) - (t.size : Int) = (m : Int) := by omega
 have hm0 : (m : Int) ≤ (s.size : Int) := by omega
 have HT := Hd hT
 have HD := Hd hD
 have HM := Hd hM
 clear hT hD hM ht
 rcases Nat.eq_zero_or_pos r with hz | hz
 · have hr : Hid (nbL s.data.toList = (0, 0)) := Hd (by
    unfold nbL nmL
    rw [HM.out, if_pos (hwr.2 hz)]
    rfl)
   have e0 : ((r : Int) == 0) = true := by simp; omega
   clear hz hwr hR
   go_enter Tryz.func167, Tryz.ntmps167
   go_wp2_with fail
   refine HT.out.mono ?_
   rintro e w1 ⟨rfl, rfl⟩
   go_wp2_with fail
   refine HD.out.mono ?_
   rintro e w1 ⟨rfl, rfl⟩
   go_wp2_with fail
   refine ret_tok rfl rfl rfl (heap_alloc_last _ _) ⟨?_, below_new⟩
   rw [hr.out]
   rfl
 · have e0 : ((r : Int) == 0) = false := by simp; omega
   have hmlt : m < s.size := by omega
   have hmlt' : (m : Int) < (s.size : Int) := by omega
   have hwd : wholeL (s.data.toList.drop m) = if s[m] == 48 then 1 else r := by
    rw [← hR, drop_at s m hmlt]; rfl
   have hwl := wholeL_le (s.data.toList.drop m)
   rw [List.length_drop, len_data] at hwl
   obtain ⟨W, hW⟩ : ∃ W, wholeL (s.data.toList.drop m) = W := ⟨_, rfl⟩
   rw [hW] at hwd hwl hwr
   have hW0 : W ≠ 0 := fun h => by have := hwr.1 h; omega
   obtain ⟨K, hK⟩ : ∃ K, m + W = K := ⟨_, rfl⟩
   have E1 : (m : Int) + (W : Int) = (K : Int) := by omega
   have hKs : (K : Int) ≤ (s.size : Int) := by omega
   have hF := frac_at s K (w.alloc tok0) hs
   have hfl := fracL_le (s.data.toList.drop K)
   rw [List.length_drop, len_data] at hfl
   obtain ⟨f, hf⟩ : ∃ f, fracL (s.data.toList.drop K) = f := ⟨_, rfl⟩
   rw [hf] at hF hfl
   obtain ⟨K2, hK2⟩ : ∃ K2, K + f = K2 := ⟨_, rfl⟩
   have E2 : (K : Int) + (f : Int) = (K2 : Int) := by omega
   have hK2s : (K2 : Int) ≤ (s.size : Int) := by omega
   have hX := expo_at s K2 (w.alloc tok0) hs
   have hxl := expoL_le (s.data.toList.drop K2)
   rw [List.length_drop, len_data] at hxl
   obtain ⟨x, hx⟩ : ∃ x, expoL (s.data.toList.drop K2) = x := ⟨_, rfl⟩
   rw [hx] at hX hxl
   obtain ⟨N, hN⟩ : ∃ N, K2 + x = N := ⟨_, rfl⟩
   have E3 : (K2 : Int) + (x : Int) = (N : Int) := by omega
   have hNs : (N : Int) ≤ (s.size : Int) := by omega
   have hNum := Hd (number_mid HM.out hW hW0 hK hf hK2 hx hN)
   have HF := Hd hF
   have HX := Hd hX
   have HN0 : Hid (N ≠ 0) := Hd (by omega)
   have HWD := Hd hwd
   have HK := Hd hK
   have HK2 := Hd hK2
   have HN := Hd hN
   clear hF hX hwd hwr hW hK hf hK2 hx hN hz hR hfl hxl hwl hW0 hrl
   go_enter Tryz.func167, Tryz.ntmps167
   go_wp2_with fail
   refine HT.out.mono ?_
   rintro e w1 ⟨rfl, rfl⟩
   go_wp2_with fail
   refine HD.out.mono ?_
   rintro e w1 ⟨rfl, rfl⟩
   go_upto_if 26 with (fail)
   go_cut [5] (fun wv wx => wv = .int .i64 W ∧ wx = w.alloc tok0)
   case first =>
    cases hb : (s[m] == 48)
    · obtain ⟨b1, b2⟩ := beqF hb 48 rfl
      obtain rfl : W = r := by have := HWD.out; rw [hb] at this; exact this
      clear hb
      go_wp2_with fail
      go_meet
      exact ⟨rfl, rfl⟩
    · obtain ⟨b1, b2⟩ := beqT hb 48 rfl
      obtain rfl : W = 1 := by have := HWD.out; rw [hb] at this; exact this
      clear hb
      go_wp2_with fail
      go_meet
      exact ⟨rfl, rfl⟩
   case rest =>
    obtain ⟨rfl, rfl⟩ := hcut
    go_upto_if 35 with (fail)
    refine HF.out.mono ?_
    rintro e w1 ⟨rfl, rfl⟩
    go_upto_if 35 with (fail)
    go_cut [4, 6] (fun nv kv wx => nv = .int .i64 K2 ∧ kv = .int .i64 (if f = 0 then 3 else 4) ∧ wx = w.alloc tok0)
    case first =>
      rcases Nat.eq_zero_or_pos f with hz | hz
      · have hz' : ¬ (0 : Int) < (f : Int) := by omega
        have HZ := Hd hz
        clear hz
        go_wp2_with fail
        go_meet
        exact ⟨by have := HK2.out; have := HZ.out; congr 1; omega, by rw [if_pos HZ.out], rfl⟩
      · have hz' : (0 : Int) < (f : Int) := by omega
        have HZ := Hd hz
        clear hz
        go_wp2_with fail
        go_meet
        exact ⟨rfl, by have := HZ.out; rw [if_neg (by omega)], rfl⟩
    case rest =>
      obtain ⟨rfl, rfl, rfl⟩ := hcut
      obtain ⟨k1, hk1⟩ : ∃ k1 : Int, (if f = 0 then 3 else 4 : Int) = k1 := ⟨_, rfl⟩
      rw [hk1]
      have HK1 := Hd hk1
      clear hk1
      go_upto_if 44 with (fail)
      refine HX.out.mono ?_
      rintro e w1 ⟨rfl, rfl⟩
      go_upto_if 44 with (fail)
      go_cut [4, 6] (fun nv kv wx => nv = .int .i64 N ∧ kv = .int .i64 (if f = 0 ∧ x = 0 then 3 else 4) ∧ wx = w.alloc tok0)
      case first =>
        rcases Nat.eq_zero_or_pos x with hz | hz
        · have hz' : ¬ (0 : Int) < (x : Int) := by omega
          have HZ := Hd hz
          clear hz
          go_wp2_with fail
          go_meet
          exact ⟨by have := HN.out; have := HZ.out; congr 1; omega, by rw [← HK1.out]; have := HZ.out; simp [this], rfl⟩
        · have hz' : (0 : Int) < (x : Int) := by omega
          have HZ := Hd hz
          clear hz
          go_wp2_with fail
          go_meet
          exact ⟨rfl, by have := HZ.out; rw [if_neg (by omega)], rfl⟩
      case rest =>
        obtain ⟨rfl, rfl, rfl⟩ := hcut
        obtain ⟨k2, hk2⟩ : ∃ k2 : Int, (if f = 0 ∧ x = 0 then 3 else 4 : Int) = k2 := ⟨_, rfl⟩
        rw [hk2]
        have hnum := hNum.out
        rw [hk2] at hnum
        have HNU := Hd hnum
        clear hk2 hnum hNum HK1
        have HDG := Hd (tdigit_at s N (w.alloc tok0))
        have HLT := Hd (tletter_at s N (w.alloc tok0))
        have hbh := behind_head (s.data.toList.drop N)
        cases hd : headB digU (s.data.toList.drop N)
        · cases hl : headB letU (s.data.toList.drop N)
          · cases hp : headB (fun b => b == 46) (s.data.toList.drop N)
            · have HP := Hd (dot_at s N (w.alloc tok0) false hp)
              have hr := Hd (number_good HNU.out HN0.out (by rw [hbh, hd, hl, hp]; rfl))
              have hd' := Hd hd
              have hl' := Hd hl
              clear hbh hd hl hp
              go_wp2_with fail
              refine HDG.out.mono ?_
              rintro e w1 ⟨rfl, rfl⟩
              rw [hd'.out]
              go_wp2_with fail
              refine HLT.out.mono ?_
              rintro e w1 ⟨rfl, rfl⟩
              rw [hl'.out]
              go_wp2_with fail
              refine HP.out.mono ?_
              rintro e w1 ⟨rfl, rfl⟩
              go_wp2_with fail
              refine ret_tok rfl rfl rfl (heap_alloc_last _ _) ⟨?_, below_new⟩
              rw [hr.out, tokS_yes HN0.out]
              exact ret_t (mk_of (ext_take s N)).symm rfl
            · have HP := Hd (dot_at s N (w.alloc tok0) true hp)
              have hr := Hd (number_bad HNU.out (by rw [hbh, hd, hl, hp]; rfl))
              have hd' := Hd hd
              have hl' := Hd hl
              clear hbh hd hl hp
              go_wp2_with fail
              refine HDG.out.mono ?_
              rintro e w1 ⟨rfl, rfl⟩
              rw [hd'.out]
              go_wp2_with fail
              refine HLT.out.mono ?_
              rintro e w1 ⟨rfl, rfl⟩
              rw [hl'.out]
              go_wp2_with fail
              refine HP.out.mono ?_
              rintro e w1 ⟨rfl, rfl⟩
              go_wp2_with fail
              refine ret_tok rfl rfl rfl (heap_alloc_last _ _) ⟨?_, below_new⟩
              rw [hr.out]
              rfl
          · have hr := Hd (number_bad HNU.out (by rw [hbh, hd, hl]; rfl))
            have hd' := Hd hd
            have hl' := Hd hl
            clear hbh hd hl
            go_wp2_with fail
            refine HDG.out.mono ?_
            rintro e w1 ⟨rfl, rfl⟩
            rw [hd'.out]
            go_wp2_with fail
            refine HLT.out.mono ?_
            rintro e w1 ⟨rfl, rfl⟩
            rw [hl'.out]
            go_wp2_with fail
            refine ret_tok rfl rfl rfl (heap_alloc_last _ _) ⟨?_, below_new⟩
            rw [hr.out]
            rfl
        · have hr := Hd (number_bad HNU.out (by rw [hbh, hd]; rfl))
          have hd' := Hd hd
          clear hbh hd
          go_wp2_with fail
          refine HDG.out.mono ?_
          rintro e w1 ⟨rfl, rfl⟩
          rw [hd'.out]
          go_wp2_with fail
          refine ret_tok rfl rfl rfl (heap_alloc_last _ _) ⟨?_, below_new⟩
          rw [hr.out]
          rfl
theorem vnumber_zero {l : List UInt8} (h : (nbL l).1 = 0) : (nbL l).2 = 0 := by
 unfold nbL at *
 by_cases h0 : (nmL l).1 = 0
 · rw [if_pos h0]
 · rw [if_neg h0] at h ⊢
   cases hb : behindB (l.drop (nmL l).1)
   · rw [hb] at h; exact absurd h h0
   · rfl
set_option maxRecDepth 100000 in
theorem vnumberf_any (s : ByteArray) (w : World) (hs : s.size ≤ 1100000) : Calls Tryz.prog 135 #[.string s] w fun e w' => e = .returned (.int .i64 (kindL s.data.toList)) ∧ Below w.heap.size w w' := by
 have hN := number_any s w hs
 have hk : kindL s.data.toList = if (nbL s.data.toList).1 < s.size then 0 else (nbL s.data.toList).2 := by unfold kindL; rw [len_data]
 have hz := fun h => vnumber_zero (l := s.data.toList) h
 obtain ⟨n, hn⟩ : ∃ n, (nbL s.data.toList).1 = n := ⟨_, rfl⟩
 obtain ⟨k, hkk⟩ : ∃ k, (nbL s.data.toList).2 = k := ⟨_, rfl⟩
 rw [hn, hkk] at hN hk hz
 have hT : ∃ x : ByteArray, tokS k (s.data.toList.take n) n = .tuple #[.agg #[.int .i64 k, .string x], .int .i64 n] := by
   by_cases h0 : n = 0
   · rw [hz h0, h0]; exact ⟨_, rfl⟩
   · exact ⟨_, tokS_yes h0⟩
 obtain ⟨x, hx⟩ := hT
 rw [hx] at hN
 have HN := Hd hN
 clear hN hx hz hn hkk
 by_cases hlt : n < s.size
 · have hlt' : (n : Int) < (s.size : Int) := by omega
   have hr : Hid (kindL s.data.toList = 0) := Hd (by rw [hk, if_pos hlt])
   clear hk
   go_enter Tryz.func135, Tryz.ntmps135
   go_wp2_with fail
   refine HN.out.mono ?_
   rintro e w1 ⟨rfl, hb⟩
   have HB := Hd hb
   have hbs := hb.size
   clear hb
   go_wp2_with fail
   go_ret
   exact ⟨ret_i (by rw [hr.out]), HB.out.alloc hbs _⟩
 · have hlt' : ¬ (n : Int) < (s.size : Int) := by omega
   have hr : Hid (kindL s.data.toList = k) := Hd (by rw [hk, if_neg hlt])
   clear hk
   go_enter Tryz.func135, Tryz.ntmps135
   go_wp2_with fail
   refine HN.out.mono ?_
   rintro e w1 ⟨rfl, hb⟩
   have HB := Hd hb
   have hbs := hb.size
   clear hb
   go_wp2_with fail
   go_ret
   exact ⟨ret_i (by rw [hr.out]), HB.out.alloc hbs _⟩
end Go.Proofs.YtpkmbhnikilihaaGreatDoor
