/- The walk of the law TokenPrints. -/
import Derived.Test.YtfinboplkjijhaaGreatDoorTRefs
import Derived.Test.YtfinboplkjijhaaGreatDoorTKeepAll
namespace Go.Proofs.YtfinboplkjijhaaGreatDoor.LTPrints
open Go.RowKit

/-- The tokens that came in, and the copy of the call's own, stand. -/
def Both (W w : World) (A : Option Addr) (n g : Nat) (ts : List (Int × ByteArray)) : Prop := TsAt w w.heap.size A n ts ∧ TsAt w w.heap.size (some ⟨g, 0, none⟩) (n + 1) (ts ++ [(77, ⟨#[]⟩)]) ∧ Laid3 w ∧ Below W.heap.size W w
theorem Both.next {W w w' : World} {A : Option Addr} {n g : Nat} {ts : List (Int × ByteArray)} (h : Both W w A n g ts) (hb : Below w.heap.size w w') : Both W w' A n g ts :=
  ⟨h.1.on hb, h.2.1.on hb, h.2.2.1.below hb, h.2.2.2.trans (hb.mono h.2.2.2.size)⟩
/-- A token in memory, and all the rest. -/
theorem tok_next {W w w' : World} {A : Option Addr} {n g b o : Nat} {z : Int} {x : ByteArray} {ts : List (Int × ByteArray)} (hb : Below w.heap.size w w') (h : w.cell? ⟨b, o, none⟩ = some (.int .i64 z) ∧ w.cell? ⟨b, o + 1, none⟩ = some (.string x) ∧ Both W w A n g ts) : w'.cell? ⟨b, o, none⟩ = some (.int .i64 z) ∧ w'.cell? ⟨b, o + 1, none⟩ = some (.string x) ∧ Both W w' A n g ts :=
  ⟨(hb.cell (World.block_lt_of_cell? w _ h.1)).trans h.1, (hb.cell (World.block_lt_of_cell? w _ h.2.1)).trans h.2.1, h.2.2.next hb⟩

set_option maxRecDepth 100000 in
set_option maxHeartbeats 1000000 in
theorem prints_big (W : World) (h3 : Laid3 W) (A : Option Addr) (n c : Nat) (ts : List (Int × ByteArray)) (h : TsAt W W.heap.size A n ts) (hb : ∀ t ∈ ts, t.2.size ≤ 140737488355328) (hsum : ¬ sumT ts ≤ 3000) :
    Calls Tryz.prog 4 #[.slice A n c] W fun e w' => e = .returned (.bool true) ∧ Below W.heap.size W w' := by
  have HS := Lib.hid (short_any A n c ts W h hb)
  rw [decide_eq_false hsum] at HS
  have HW := Lib.hid (awake_t (K3.start h3))
  clear h h3 hb hsum
  go_enter Tryz.func4, Tryz.ntmps4
  go_wp2_with fail
  refine HS.out.mono ?_
  rintro e w1 ⟨rfl, rfl⟩
  go_wp2_with fail
  refine HW.out.mono ?_
  rintro e w2 ⟨rfl, hk⟩
  go_wp2_with fail
  go_ret
  exact ⟨rfl, hk.2⟩

set_option maxRecDepth 100000 in
set_option maxHeartbeats 4000000 in
theorem prints_small (W : World) (h3 : Laid3 W) (A : Option Addr) (n c : Nat) (ts : List (Int × ByteArray)) (h : TsAt W W.heap.size A n ts) (hsum : sumT ts ≤ 3000)
    (HK : ∀ w, TsAt w w.heap.size A n ts → Calls Tryz.prog 12 #[.slice A n c] w fun e w' => CopiedT w w' n ts e) :
    Calls Tryz.prog 4 #[.slice A n c] W fun e w' => e = .returned (.bool true) ∧ Below W.heap.size W w' := by
  have hn : n ≤ 3000 := by have := sumT_len ts; have := h.1; omega
  have HS := Lib.hid (short_any A n c ts W h (fun t ht => by
    obtain ⟨k, hk⟩ := List.getElem?_of_mem ht
    have := sumT_mem hk
    omega))
  rw [decide_eq_true hsum] at HS
  have HKc := Lib.hid (HK W h)
  have HL := Lib.hid h.1
  have H := Lib.hid h
  have H3 := Lib.hid h3
  have HSum := Lib.hid hsum
  clear h h3 HK hsum
  go_enter Tryz.func4, Tryz.ntmps4
  go_wp2_with fail
  refine HS.out.mono ?_
  rintro e w0 ⟨rfl, rfl⟩
  go_wp2_with fail
  refine HKc.out.mono ?_
  rintro e w1 ⟨g, cap, rfl, hcap, hI, hb1⟩
  have K1 : Hid (Both W w1 A n g ts) := Lib.hid ⟨H.out.on hb1, hI, H3.out.below hb1, hb1⟩
  have HP := Lib.hid (print_any (some ⟨g, 0, none⟩) n cap ts w1 hI.init HSum.out K1.out.2.2.1)
  obtain ⟨P, hP⟩ : ∃ P : ByteArray, (⟨(printS (bareT ts)).toArray⟩ : ByteArray) = P := ⟨_, rfl⟩
  obtain ⟨pb, hpb⟩ : ∃ pb, (bareT ts).all rightB = pb := ⟨_, rfl⟩
  rw [hP, hpb] at HP
  clear hI hb1 HS HKc
  go_wp2_with fail
  refine HP.out.mono ?_
  rintro e w2 ⟨rfl, hb2⟩
  have K2 := Lib.hid (K1.out.next hb2)
  have HQ := Lib.hid (rprintT_any A n c ts w2 K2.out.1 HSum.out)
  rw [hP, hpb] at HQ
  clear hb2 HP hP hpb
  go_wp2_with fail
  refine HQ.out.mono ?_
  rintro e w3 ⟨rfl, hb3⟩
  have K3' := Lib.hid (K2.out.next hb3)
  clear hb3 HQ K1 K2
  go_wp2_with fail
  go_loopg [8] n (fun g' i wx => ∃ k : Nat, k + g' = n ∧ i = .int .i64 k ∧ Aside (Both W wx A n g ts))
  case atStart => exact ⟨0, by omega, rfl, Aside.intro K3'.out⟩
  case round =>
    obtain ⟨k, hk, rfl, HB⟩ := hrel
    by_cases hlt : k < n
    · have hlt' : (k : Int) < (n : Int) := by omega
      have hk0 : (0 : Int) ≤ (k : Int) := by omega
      obtain ⟨⟨z, x⟩, ht⟩ : ∃ t, ts[k]? = some t := ⟨_, List.getElem?_eq_getElem (by rw [HL.out]; omega)⟩
      obtain ⟨bb, o, rfl, hbb, c0, c1⟩ := HB.out.1.2 k _ ht
      simp only at c0 c1
      have hx : x.size ≤ 9000 := by have h := sumT_mem ht; have h2 := HSum.out; simp only at h; omega
      have HC : wr.cell? ⟨bb, o + k * 2, none⟩ = some (.int .i64 z) ∧ wr.cell? ⟨bb, o + k * 2 + 1, none⟩ = some (.string x) ∧ Both W wr (some ⟨bb, o, none⟩) n g ts := ⟨c0, c1, HB.out⟩
      obtain ⟨rb, hrb⟩ : ∃ rb, rightB (z, x.data.toList) = rb := ⟨_, rfl⟩
      have HRB := Lib.hid hrb
      clear ht hrb K3' H
      go_upto_region 9 with (fail)
      go_cut [41] from 25 to 41 (fun t wx => t = .bool false ∧ Both W wx (some ⟨bb, o, none⟩) n g ts)
      case first =>
        go_region_held3 (fun w' => w'.cell? ⟨bb, o + k * 2, none⟩ = some (.int .i64 z) ∧ w'.cell? ⟨bb, o + k * 2 + 1, none⟩ = some (.string x) ∧ Both W w' (some ⟨bb, o, none⟩) n g ts)
          (first
            | exact tok_next (Below.drew (Below.refl _ _)) HC
            | exact tok_next (by assumption) (by assumption)
            | exact tok_next (by assumption) ⟨by assumption, by assumption, by assumption⟩
            | go_keep)
          ((first
            | (go_at_call 15; refine (right_any z x _ hx ((by assumption : _ ∧ _ ∧ Both W _ _ n g ts).2.2.2.2.1)).mono ?_; rintro e w' ⟨rfl, hb⟩; rw [HRB.out])
            | (go_at_call 16; refine (rright_any z x _ hx).mono ?_; rintro e w' ⟨rfl, hb⟩; rw [HRB.out])))
        all_goals
          have HKK := (by assumption : _ ∧ _ ∧ Both W _ (some ⟨bb, o, none⟩) n g ts).2.2
          clear HC
          go_wp2_with fail
          go_meet
          exact ⟨by simp, HKK⟩
      case rest =>
        obtain ⟨rfl, HK'⟩ := hcut
        have HKH := Lib.hid HK'
        clear HK' HC
        go_wp2_with fail
        go_roundg (gk - 1)
        case measure => omega
        case rel => exact ⟨k + 1, by omega, by go_num, Aside.intro HKH.out⟩
    · obtain rfl : k = n := by omega
      have HT := Lib.hid (tstay_any g k cap c A ts wr hn hcap HB.out.2.1 HB.out.1)
      have hps : (P.toList == P.toList) = true := by simp
      have HBH := Lib.hid HB.out
      clear HB
      cases pb
      all_goals
        go_wp2_with fail
        refine HT.out.mono ?_
        rintro e w4 ⟨rfl, hb4⟩
        have K4 : Hid (K3 W w4) := Lib.hid ⟨(HBH.out.next hb4).2.2.1, (HBH.out.next hb4).2.2.2⟩
        have HW := Lib.hid (awake_t K4.out)
        clear hb4 HT
        go_wp2_with fail
        refine HW.out.mono ?_
        rintro e w5 ⟨rfl, hk5⟩
        go_wp2_with fail
        go_ret
        exact ⟨rfl, hk5.2⟩
theorem walk (W : World) (h3 : Laid3 W) (A : Option Addr) (n c : Nat) (ts : List (Int × ByteArray)) (h : TsAt W W.heap.size A n ts) (hb : ∀ t ∈ ts, t.2.size ≤ 140737488355328) (hA : A = none → n = 0 ∧ c = 0) :
    Calls Tryz.prog 4 #[.slice A n c] W fun e w' => e = .returned (.bool true) ∧ Below W.heap.size W w' := by
  by_cases hsum : sumT ts ≤ 3000
  · have hn : n ≤ 3000 := by have := sumT_len ts; have := h.1; omega
    cases A with
    | none =>
      obtain ⟨rfl, rfl⟩ := hA rfl
      have hts : ts = [] := List.eq_nil_of_length_eq_zero h.1
      subst hts
      exact prints_small W h3 none 0 0 [] h hsum (fun w _ => keep_none w)
    | some ad => exact prints_small W h3 (some ad) n c ts h hsum (fun w hw => keep_some ad n c ts w hn hw)
  · exact prints_big W h3 A n c ts h hb hsum
end Go.Proofs.YtfinboplkjijhaaGreatDoor.LTPrints
