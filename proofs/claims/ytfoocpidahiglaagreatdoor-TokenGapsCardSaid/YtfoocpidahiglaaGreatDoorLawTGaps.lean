/- What stands between tokens, and the walk of the law TokenGaps. -/
import Derived.Test.YtfoocpidahiglaaGreatDoorTPrint
import Derived.Test.YtfoocpidahiglaaGreatDoorTSlice
import Derived.Deep.CutRange
namespace Go.Proofs.YtfoocpidahiglaaGreatDoor
open Go.RowKit

/-- What the law puts at a place, of the number there: nothing behind the last number. -/
def gapAt : List Int → List UInt8
  | [] => []
  | z :: _ => gapText (z % 8).toNat
def gapsL : List Int → List (Int × List UInt8) → List UInt8
  | zs, [] => 32 :: gapAt zs
  | zs, t :: ts => 32 :: (gapAt zs ++ (printT t ++ gapsL zs.tail ts))
theorem gapAt_read (zs : List Int) (r : List UInt8) : readL (gapAt zs ++ r) = readL r := by
  cases zs with
  | nil => rfl
  | cons z zs => exact gap_read _ r
theorem gapAt_source (zs : List Int) : sourceB (gapAt zs) = true := by
  cases zs with
  | nil => decide +kernel
  | cons z zs => exact gap_source _
theorem gapAt_len (zs : List Int) : (gapAt zs).length ≤ 5 := by
  cases zs with
  | nil => simp [gapAt]
  | cons z zs =>
    show (gapText (z % 8).toNat).length ≤ 5
    generalize (z % 8).toNat = k
    unfold gapText
    split <;> simp
theorem gapsL_end (zs : List Int) (ts : List (Int × List UInt8)) : endB (gapsL zs ts) := by
  cases ts with
  | nil => exact .inr ⟨_, rfl⟩
  | cons t ts => exact .inr ⟨_, rfl⟩
theorem gaps_read : ∀ (ts : List (Int × List UInt8)) (zs : List Int), ts.all rightB = true → readL (gapsL zs ts) = some ts := by
  intro ts
  induction ts with
  | nil =>
    intro zs _
    show readL (32 :: gapAt zs) = _
    rw [read_blank]
    have := gapAt_read zs []
    rw [List.append_nil] at this
    rw [this]
    rfl
  | cons t ts ih =>
    intro zs h
    simp only [List.all_cons, Bool.and_eq_true] at h
    show readL (32 :: (gapAt zs ++ (printT t ++ gapsL zs.tail ts))) = _
    rw [read_blank, gapAt_read, read_back h.1 (gapsL_end _ _), ih _ h.2]
    rfl
theorem gaps_source : ∀ (ts : List (Int × List UInt8)) (zs : List Int), ts.all rightB = true → sourceB (gapsL zs ts) = true := by
  intro ts
  induction ts with
  | nil =>
    intro zs _
    show sourceB (32 :: gapAt zs) = true
    rw [source_cons _ (by decide), gapAt_source]
    decide
  | cons t ts ih =>
    intro zs h
    simp only [List.all_cons, Bool.and_eq_true] at h
    show sourceB (32 :: (gapAt zs ++ (printT t ++ gapsL zs.tail ts))) = true
    rw [source_cons _ (by decide), source_append (gapAt_source zs), source_append (source_printT h.1), ih _ h.2]
    decide
theorem gaps_readS {zs : List Int} {ts : List (Int × List UInt8)} (h : ts.all rightB = true) (hl : ¬ 8192 < (gapsL zs ts).length) : readS (gapsL zs ts) = (ts, 0) := by
  unfold readS
  rw [if_neg hl, if_neg (by rw [gaps_source ts zs h]; simp), gaps_read ts zs h]
theorem gapAt_drop {zs : List Int} {k : Nat} {z : Int} (h : zs[k]? = some z) : gapAt (zs.drop k) = gapText (z % 8).toNat := by
  have hk := (List.getElem?_eq_some_iff.1 h).1
  rw [List.drop_eq_getElem_cons hk]
  have := (List.getElem?_eq_some_iff.1 h).2
  rw [this]
  rfl
theorem gapAt_none {zs : List Int} {k : Nat} (h : zs.length ≤ k) : gapAt (zs.drop k) = [] := by rw [List.drop_eq_nil_of_le h]; rfl
/-- One place more. -/
theorem gaps_step {zs : List Int} {ts : List (Int × ByteArray)} {k : Nat} {z : Int} {x : ByteArray} (h : ts[k]? = some (z, x)) : gapsL (zs.drop k) (bareT (ts.drop k)) = (32 :: gapAt (zs.drop k)) ++ (printT (z, x.data.toList) ++ gapsL (zs.drop (k + 1)) (bareT (ts.drop (k + 1)))) := by
  have hk := (List.getElem?_eq_some_iff.1 h).1
  have he := (List.getElem?_eq_some_iff.1 h).2
  rw [List.drop_eq_getElem_cons hk, he]
  show 32 :: (gapAt (zs.drop k) ++ (printT (z, x.data.toList) ++ gapsL (zs.drop k).tail (bareT (ts.drop (k + 1))))) = _
  rw [List.tail_drop]
  rfl
theorem gaps_last {zs : List Int} {ts : List (Int × ByteArray)} {k : Nat} (h : ts.length ≤ k) : gapsL (zs.drop k) (bareT (ts.drop k)) = 32 :: gapAt (zs.drop k) := by
  rw [List.drop_eq_nil_of_le h]
  rfl

theorem wrap8 (z : Int) : (IntKind.u64.wrap z).tmod 8 = z % 8 := by
  have h : IntKind.u64.wrap z = z % 18446744073709551616 := by
    simp [IntKind.wrap, IntKind.signed, IntKind.bits]
  rw [h, Int.tmod_eq_emod_of_nonneg (by omega)]
  omega
theorem one_ts (w : World) (z : Int) (x : ByteArray) : TsAt (w.alloc (.cells #[.int .i64 z, .string x] 37)) (w.alloc (.cells #[.int .i64 z, .string x] 37)).heap.size (some ⟨w.heap.size, 0, none⟩) 1 [(z, x)] := by
  obtain ⟨c0, c1, _⟩ := kept_box (w := w) (a := .int .i64 z) (b := .string x) (t := 37) (Below.refl _ _)
  refine ⟨rfl, fun j t ht => ?_⟩
  match j, ht with
  | 0, ht => cases ht; exact ⟨_, _, rfl, by simp, c0, c1⟩
  | j + 1, ht => simp at ht
theorem print_one (z : Int) (x : ByteArray) (rb : Bool) (hrb : rightB (z, x.data.toList) = rb) (w : World) (hx : x.size ≤ 2999) (h3 : Laid3 w) :
    Calls Tryz.prog 15 #[.slice (some ⟨w.heap.size, 0, none⟩) 1 1] (w.alloc (.cells #[.int .i64 z, .string x] 37)) fun e w' => e = .returned (.tuple #[.string ⟨(cond rb (printT (z, x.data.toList)) []).toArray⟩, .bool rb]) ∧ Below w.heap.size w w' := by
  have hall : (bareT [(z, x)]).all rightB = rb := by rw [← hrb]; simp [bareT]
  refine (print_any _ 1 1 [(z, x)] _ (one_ts w z x) (by simp only [sumT]; omega) (h3.alloc _)).mono fun e w' ⟨he, hb⟩ => ⟨?_, below_new.trans (hb.mono (by simp))⟩
  rw [he, hall]
  cases rb
  · rw [printS_no hall]; rfl
  · rw [printS_yes hall]
    have : printL (bareT [(z, x)]) = printT (z, x.data.toList) := by simp [bareT, printL]
    rw [this]; rfl
namespace LTGaps

set_option maxRecDepth 100000 in
set_option maxHeartbeats 4000000 in
theorem walk0 (W : World) (h3 : Laid3 W) (A : Option Addr) (n c : Nat) (ts : List (Int × ByteArray)) (h : TsAt W W.heap.size A n ts) (hsum : sumT ts ≤ 3000) (A2 : Option Addr) (m c2 : Nat) (zs : List Int) (hg : IntsAt W W.heap.size A2 m zs) (hm : m ≤ 200) :
    Calls Tryz.prog 6 #[.slice A n c, .slice A2 m c2] W fun e w' => e = .returned (.bool true) ∧ Below W.heap.size W w' := by
  have HL := Lib.hid h.1
  have H := Lib.hid h
  have H3 := Lib.hid h3
  have HG := Lib.hid hg
  have HM := Lib.hid hg.1
  have hn : n ≤ 3000 := by have := sumT_len ts; have := h.1; omega
  have hm' : ¬ (200 : Int) < (m : Int) := by omega
  have HS := Lib.hid (short_any A n c ts W h (fun t ht => by
    obtain ⟨k, hk⟩ := List.getElem?_of_mem ht
    have := sumT_mem hk
    omega))
  rw [decide_eq_true hsum] at HS
  clear h h3 hg
  go_enter Tryz.func6, Tryz.ntmps6
  go_wp2_with fail
  refine HS.out.mono ?_
  rintro e w1 ⟨rfl, rfl⟩
  clear HS
  go_wp2_with fail
  go_loopg [5, 6] (n + 1) (fun g sv iv wx => ∃ (k : Nat) (S : ByteArray), k + g = n + 1 ∧ k ≤ n ∧ sv = .string S ∧ iv = .int .i64 k ∧ S.size ≤ 6 * k + 12 * sumT (ts.take k) ∧ Aside (K3 W wx) ∧ Aside (S.data.toList ++ gapsL (zs.drop k) (bareT (ts.drop k)) = gapsL zs (bareT ts)) ∧ Aside ((bareT (ts.take k)).all rightB = true))
  case atStart => exact ⟨0, ⟨#[]⟩, by omega, by omega, rfl, rfl, Nat.zero_le _, Aside.intro (K3.start H3.out), Aside.intro rfl, Aside.intro rfl⟩
  case round =>
    obtain ⟨k, S, hk, hkn, rfl, rfl, hSs, HK, HE, HR⟩ := hrel
    have hkn' : (k : Int) ≤ (n : Int) := by omega
    have hk0 : (0 : Int) ≤ (k : Int) := by omega
    have hst := sumT_take ts k
    have hSb : S.size ≤ 60000 := by omega
    have hs1 : (S.size : Int) + 1 = ((S.size + 1 : Nat) : Int) := by omega
    obtain ⟨T, hT⟩ : ∃ T : ByteArray, S ++ ⟨#[32]⟩ = T := ⟨_, rfl⟩
    have hTs : T.size = S.size + 1 := by rw [← hT, ByteArray.size_append]; rfl
    have hTl : Hid (T.data.toList = S.data.toList ++ [32]) := Lib.hid (by rw [← hT, cat_two])
    go_upto_if 31 with (fail)
    go_cut [5] from 20 to 69 (fun s5 wx => ∃ G : ByteArray, s5 = .string G ∧ G.size ≤ T.size + 5 ∧ Aside (G.data.toList = T.data.toList ++ gapAt (zs.drop k)) ∧ Below wr.heap.size wr wx)
    case first =>
      by_cases hmk : k < m
      · have hmk' : (k : Int) < (m : Int) := by omega
        obtain ⟨z, hz⟩ : ∃ z, zs[k]? = some z := ⟨_, List.getElem?_eq_getElem (by rw [HM.out]; omega)⟩
        obtain ⟨b2, o2, rfl, hb2, cg⟩ := (HG.out.below HK.out.2).2 k _ hz
        have hgd := Lib.hid (gapAt_drop hz)
        have hb2' : b2 < wr.heap.size := by have := HK.out.2.size; omega
        have hne2 : ¬ b2 = wr.heap.size := by omega
        have q1 : (T.size : Int) + 1 = ((T.size + 1 : Nat) : Int) := by omega
        have q2 : (T.size : Int) + 2 = ((T.size + 2 : Nat) : Int) := by omega
        have q3 : (T.size : Int) + 3 = ((T.size + 3 : Nat) : Int) := by omega
        have q5 : (T.size : Int) + 5 = ((T.size + 5 : Nat) : Int) := by omega
        have hTb : T.size ≤ 60001 := by omega
        have e8 := wrap8 z
        obtain ⟨d, hd⟩ : ∃ d : Nat, z % 8 = d := ⟨(z % 8).toNat, by omega⟩
        have hd8 : d < 8 := by omega
        rw [hd] at e8 hgd
        clear hz hd
        rcases (by omega : d = 0 ∨ d = 1 ∨ d = 2 ∨ d = 3 ∨ d = 4 ∨ d = 5 ∨ d = 6 ∨ d = 7) with rfl | rfl | rfl | rfl | rfl | rfl | rfl | rfl
        all_goals (go_wp2; go_meet; exact ⟨_, rfl, by rw [ByteArray.size_append]; exact Nat.add_le_add_left (by decide) _, Aside.intro (by rw [cat_two, hgd.out]; rfl), below_new⟩)
      · have hmk' : ¬ (k : Int) < (m : Int) := by omega
        have hgn := Lib.hid (gapAt_none (zs := zs) (k := k) (by rw [HM.out]; omega))
        go_wp2
        go_meet
        exact ⟨_, rfl, by omega, Aside.intro (by rw [hgn.out, List.append_nil]), Below.refl _ _⟩
    case rest =>
      obtain ⟨G, rfl, hGs, hGl, hbc⟩ := hcut
      have HKc := Lib.hid (HK.out.next hbc)
      have hGl' := Lib.hid hGl.out
      clear hGl hbc
      by_cases hkn2 : k = n
      · subst hkn2
        have e1 : ((k : Int) == (k : Int)) = true := by simp
        have hall := Lib.hid (all_of_take HR.out (by rw [HL.out]; omega))
        have hGe : Hid (G.data.toList = gapsL zs (bareT ts)) := Lib.hid (by
          have h := HE.out
          rw [gaps_last (by rw [HL.out]; omega)] at h
          rw [← h, hGl'.out, hTl.out, List.append_assoc]
          rfl)
        have HW := Lib.hid (awake_t HKc.out)
        by_cases hbig : 8192 < G.size
        · have hbig' : (8192 : Int) < (G.size : Int) := by omega
          go_wp2_with fail
          refine HW.out.mono ?_
          rintro e w3 ⟨rfl, K⟩
          have HK' := Lib.hid K
          clear K
          go_wp2_with fail
          go_ret
          exact ⟨rfl, HK'.out.2⟩
        · have hbig' : ¬ (8192 : Int) < (G.size : Int) := by omega
          have hr := gaps_readS (zs := zs) hall.out (by rw [← hGe.out, len_data]; exact hbig)
          rw [← hGe.out] at hr
          have HB := Lib.hid (read_k HKc.out G (by omega) _ _ hr)
          rw [bareT_len, HL.out] at HB
          clear hr
          go_wp2_with fail
          refine HB.out.mono ?_
          rintro e w2 ⟨A3, cap3, rfl, hT3, K2, _⟩
          have HSame := Lib.hid (same_yes A3 A k cap3 c ts w2 (packed hT3 HL.out) ((H.out.below K2.2).more K2.2.size) (by omega))
          have HK2 := Lib.hid K2
          clear hT3 K2 HB
          go_wp2_with fail
          refine HSame.out.mono ?_
          rintro e w3 ⟨rfl, hb3⟩
          have HW := Lib.hid (awake_t (HK2.out.next hb3))
          clear hb3 HSame
          go_wp2_with fail
          refine HW.out.mono ?_
          rintro e w4 ⟨rfl, K⟩
          have HK' := Lib.hid K
          clear K
          go_wp2_with fail
          go_ret
          exact ⟨rfl, HK'.out.2⟩
      · have hlt : k < n := by omega
        have e1 : ((k : Int) == (n : Int)) = false := by simp; omega
        have hlt' : (k : Int) < (n : Int) := by omega
        obtain ⟨⟨z, x⟩, ht⟩ : ∃ t, ts[k]? = some t := ⟨_, List.getElem?_eq_getElem (by rw [HL.out]; omega)⟩
        obtain ⟨bb, o, rfl, hbb, c0, c1⟩ := (H.out.below HKc.out.2).2 k _ ht
        simp only at c0 c1
        have hbb' : bb < wc.heap.size := by have := HKc.out.2.size; omega
        have hxs : x.size + 1 ≤ sumT ts := by have h := sumT_mem ht; simpa using h
        have hstep := sumT_step ht
        simp only at hstep
        obtain ⟨rb, hrb⟩ : ∃ rb, rightB (z, x.data.toList) = rb := ⟨_, rfl⟩
        have HP := Lib.hid (print_one z x rb hrb wc (by omega) HKc.out.1)
        have hall2 := Lib.hid (all_step ht HR.out)
        rw [hrb] at hall2
        have hgs := Lib.hid (gaps_step (zs := zs) ht)
        have hpl := printT_len z x
        cases rb
        · have HRt := Lib.hid (fun w h3 => right_any z x w (by omega) h3)
          rw [hrb] at HRt
          clear ht hstep hpl hrb
          go_wp2_with fail
          refine HP.out.mono ?_
          rintro e w2 ⟨rfl, hb2⟩
          have d0 := (hb2.cell (p := ⟨bb, o + k * 2, none⟩) hbb').trans c0
          have d1 := (hb2.cell (p := ⟨bb, o + k * 2 + 1, none⟩) hbb').trans c1
          have HK2 := Lib.hid (HKc.out.next hb2)
          have HRc := Lib.hid (HRt.out w2 HK2.out.1)
          clear hb2 c0 c1 HRt HP
          go_wp2_with fail
          refine HRc.out.mono ?_
          rintro e w3 ⟨rfl, hb3⟩
          have HW := Lib.hid (awake_t (HK2.out.next hb3))
          clear hb3 HRc
          go_wp2_with fail
          refine HW.out.mono ?_
          rintro e w4 ⟨rfl, K⟩
          have HK' := Lib.hid K
          clear K
          go_wp2_with fail
          go_ret
          exact ⟨rfl, HK'.out.2⟩
        · obtain ⟨P, hP⟩ : ∃ P : ByteArray, (⟨(cond true (printT (z, x.data.toList)) []).toArray⟩ : ByteArray) = P := ⟨_, rfl⟩
          rw [hP] at HP
          have hPl : Hid (P.data.toList = printT (z, x.data.toList)) := Lib.hid (by rw [← hP]; rfl)
          have hPs : P.size ≤ 12 * (x.size + 1) := by rw [← len_data, hPl.out]; exact hpl
          have q : (G.size : Int) + (P.size : Int) = ((G.size + P.size : Nat) : Int) := by omega
          have hE2 : Hid ((G ++ P).data.toList ++ gapsL (zs.drop (k + 1)) (bareT (ts.drop (k + 1))) = gapsL zs (bareT ts)) := Lib.hid (by
            have h := HE.out
            rw [hgs.out] at h
            rw [← h, cat_two, hPl.out, hGl'.out, hTl.out]
            simp)
          clear ht hpl hrb hP HE HR
          go_wp2_with fail
          refine HP.out.mono ?_
          rintro e w2 ⟨rfl, hb2⟩
          have HK2 := Lib.hid (HKc.out.next hb2)
          clear hb2 HP
          go_wp2_with fail
          go_roundg (gk - 1)
          case measure => omega
          case rel => exact ⟨k + 1, G ++ P, by omega, by omega, rfl, by go_num, by rw [ByteArray.size_append]; omega, Aside.intro HK2.out, Aside.intro hE2.out, Aside.intro hall2.out⟩

set_option maxRecDepth 100000 in
set_option maxHeartbeats 1000000 in
theorem walk_long (W : World) (h3 : Laid3 W) (A : Option Addr) (n c : Nat) (ts : List (Int × ByteArray)) (h : TsAt W W.heap.size A n ts) (hb : ∀ t ∈ ts, t.2.size ≤ 140737488355328) (A2 : Option Addr) (m c2 : Nat) (hm : ¬ (sumT ts ≤ 3000 ∧ m ≤ 200)) :
    Calls Tryz.prog 6 #[.slice A n c, .slice A2 m c2] W fun e w' => e = .returned (.bool true) ∧ Below W.heap.size W w' := by
  have HS := Lib.hid (short_any A n c ts W h hb)
  have HW := Lib.hid (awake_t (K3.start h3))
  clear h hb h3
  by_cases hsum : sumT ts ≤ 3000
  · have hm' : (200 : Int) < (m : Int) := by omega
    rw [decide_eq_true hsum] at HS
    clear hm hsum
    go_enter Tryz.func6, Tryz.ntmps6
    go_wp2_with fail
    refine HS.out.mono ?_
    rintro e w1 ⟨rfl, rfl⟩
    go_wp2_with fail
    refine HW.out.mono ?_
    rintro e w3 ⟨rfl, K⟩
    have HK' := Lib.hid K
    clear K
    go_wp2_with fail
    go_ret
    exact ⟨rfl, HK'.out.2⟩
  · rw [decide_eq_false hsum] at HS
    clear hm hsum
    go_enter Tryz.func6, Tryz.ntmps6
    go_wp2_with fail
    refine HS.out.mono ?_
    rintro e w1 ⟨rfl, rfl⟩
    go_wp2_with fail
    refine HW.out.mono ?_
    rintro e w3 ⟨rfl, K⟩
    have HK' := Lib.hid K
    clear K
    go_wp2_with fail
    go_ret
    exact ⟨rfl, HK'.out.2⟩
theorem walk (W : World) (h3 : Laid3 W) (A : Option Addr) (n c : Nat) (ts : List (Int × ByteArray)) (h : TsAt W W.heap.size A n ts) (hb : ∀ t ∈ ts, t.2.size ≤ 140737488355328) (A2 : Option Addr) (m c2 : Nat) (zs : List Int) (hg : IntsAt W W.heap.size A2 m zs ∧ (∀ z ∈ zs, (Lit.int .i64 z).wf = true) ∧ (A2 = none → m = 0 ∧ c2 = 0)) :
    Calls Tryz.prog 6 #[.slice A n c, .slice A2 m c2] W fun e w' => e = .returned (.bool true) ∧ Below W.heap.size W w' := by
  by_cases hm : sumT ts ≤ 3000 ∧ m ≤ 200
  · exact walk0 W h3 A n c ts h hm.1 A2 m c2 zs hg.1 hm.2
  · exact walk_long W h3 A n c ts h hb A2 m c2 hm
end LTGaps
end Go.Proofs.YtfoocpidahiglaaGreatDoor
