/- The walk of the landed Value. -/
import Derived.Test.YtaohniiemhahdaaGreatDoorQc22
namespace Go.Proofs.YtaohniiemhahdaaGreatDoor.Blk
open Go.RowKit

theorem cutB_zero (k : Nat) (xs : List ByteArray) : cutB 0 k xs = xs := by
  apply List.ext_getElem?
  intro j
  rw [cutB_get]
  cases xs[j]? with
  | none => rfl
  | some x =>
    simp only [Option.map_some]
    split
    · congr 1; unfold cutS; rw [Nat.zero_min]; exact ByteArray.extract_zero_size
    · rfl

theorem drop_take_get {ys : List ByteArray} {f n j : Nat} {x : ByteArray} (h : ((ys.drop f).take n)[j]? = some x) : ys[f + j]? = some x := by
  rw [List.getElem?_take] at h
  split at h
  · rw [List.getElem?_drop] at h; exact h
  · cases h
theorem join_ten : ∀ ls : List (List UInt8), Lib.join ls [10] = joinTen ls := by
  intro ls
  induction ls with
  | nil => rfl
  | cons x t ih =>
    cases t with
    | nil => exact Lib.join_one x [10]
    | cons y t =>
      rw [Lib.join_cons]
      show _ = x ++ 10 :: joinTen (y :: t)
      rw [← ih, Lib.join_cons]
      simp [Lib.joinTail]

set_option maxRecDepth 100000 in
set_option maxHeartbeats 1000000 in
theorem pvalue_any (s : ByteArray) (w : World) (hs : s.size ≤ 13000) :
    Calls Tryz.prog 156 #[.string s] w fun e w' => e = .returned (.string ⟨(valueL s.data.toList).toArray⟩) ∧ Below w.heap.size w w' := by
  have HR := Lib.hid (plines_any s w hs)
  go_enter Tryz.func156, Tryz.ntmps156
  go_wp2_with fail
  refine HR.out.mono ?_
  rintro e w1 ⟨A, cap, rfl, hown, hb⟩
  have hroom := lines_room (s.data.toList.length + 1) s.data.toList (by omega)
  rw [← Lib.size_eq] at hroom
  have hxs : ∀ x ∈ linesB s.data.toList, x.size ≤ 13000 := by
    intro x hx
    obtain ⟨l, hl, rfl⟩ := List.mem_map.1 hx
    have := hroom.2.1 l hl
    show l.length ≤ _
    omega
  have hN : (linesB s.data.toList).length ≤ 13001 := by unfold linesB; rw [List.length_map]; omega
  have hN1 : 1 ≤ (linesB s.data.toList).length := by
    unfold linesB
    rw [List.length_map]
    have := linesL_ne s.data.toList
    cases h : linesL s.data.toList with
    | nil => exact absurd h this
    | cons _ _ => simp
  clear hroom
  obtain ⟨g0, rfl, hbg, hgl, hcap⟩ := strs_some hown (by omega)
  have HI := Lib.hid (pindent_any (some ⟨g0, 0, none⟩) (linesB s.data.toList).length cap (linesB s.data.toList) w1 (by omega) (strs_of_own hown).2 (fun x hx => by have := hxs x hx; omega))
  have hib := indTo_bd _ (fun x hx => by have := hxs x hx; omega) (linesB s.data.toList).length
  rw [indTo_all (Nat.le_refl _)] at hib
  have HVAL : Hid (valueL s.data.toList = joinTen (trimL (cutL (max (indentL (bytesL (linesB s.data.toList))) 0).toNat (bytesL (linesB s.data.toList))))) := Lib.hid (by rw [linesB_bytes]; rfl)
  generalize linesB s.data.toList = xs at *
  generalize hv : indentL (bytesL xs) = v at *
  have hib1 := hib.1
  have hib2 := hib.2
  have HEX := Lib.hid hxs
  have HB := Lib.hid hb
  clear hxs hv hib hb HR
  go_upto_if 13 with (fail)
  refine HI.out.mono ?_
  rintro e w2 ⟨rfl, rfl⟩
  obtain ⟨tst, hd⟩ : ∃ t : Bool, decide (0 < v) = t := ⟨_, rfl⟩
  go_upto_if 13 with (fail)
  have HD := Lib.hid hd
  clear hd
  obtain ⟨M, hM⟩ : ∃ M, (max v 0).toNat = M := ⟨_, rfl⟩
  have hm1 : M ≤ 100000 := by omega
  rw [hM] at HVAL
  have HM := Lib.hid hM
  clear hM
  go_cut [3] (fun l wx => l = .slice (some ⟨g0, 0, none⟩) xs.length cap ∧ wx.ownsRow w.heap.size 9 1 (.slice (some ⟨g0, 0, none⟩) xs.length cap) xs.length ((cutB M xs.length xs).map Value.string) ∧ Below w.heap.size w wx)
  case first =>
    cases tst
    · obtain rfl : M = 0 := by have h1 := HM.out; have h2 := of_decide_eq_false HD.out; omega
      go_wp2_with fail
      go_meet
      exact ⟨rfl, by rw [cutB_zero]; exact hown, HB.out⟩
    · have hv0 := of_decide_eq_true HD.out
      obtain ⟨m, rfl⟩ : ∃ m : Nat, v = m := ⟨v.toNat, by omega⟩
      obtain rfl : m = M := by have := HM.out; omega
      clear HI hib1 hib2 HM HD
      go_wp2_with fail
      go_loopg [5] (xs.length - 1) (fun g i wx => ∃ k : Nat, 1 ≤ k ∧ k + g = xs.length ∧ i = .int .i64 k ∧ wx.ownsRow w.heap.size 9 1 (.slice (some ⟨g0, 0, none⟩) xs.length cap) xs.length ((cutB m k xs).map Value.string) ∧ Below w.heap.size w wx)
      case atStart => exact ⟨1, by omega, by omega, rfl, by rw [cutB_start]; exact hown, HB.out⟩
      case round =>
        obtain ⟨k, hk1, hk, rfl, hown, hb⟩ := hrel
        cases gk with
        | succ g =>
          have hlt : k < xs.length := by omega
          have hlt' : (k : Int) < (xs.length : Int) := by omega
          have hk0 : (0 : Int) ≤ (k : Int) := by omega
          obtain ⟨x, hx⟩ : ∃ x, xs[k]? = some x := ⟨_, List.getElem?_eq_getElem hlt⟩
          have hget : (cutB m k xs)[k]? = some x := by
            rw [cutB_get, hx]
            simp only [Option.map_some]
            rw [if_neg (by omega)]
          have c1 : wr.cell? ⟨g0, k, none⟩ = some (.string x) := by
            rw [World.ownsRow.cellAt hown k (by omega), List.getElem?_map, hget]; rfl
          have f1 : wr.frozen? ⟨g0, k, none⟩ = false := World.ownsRow.frozenAt hown k
          have hxs : x.size ≤ 13000 := HEX.out x (List.mem_of_getElem? hx)
          have HO := Lib.hid (World.ownsRow.stored hown k (.string (cutS m x)))
          have HS := Lib.hid (cutB_set (m := m) hk1 hx)
          have HB2 := Lib.hid hb
          have hcx : Hid (cutS m x = x.extract (min m x.size) x.size) := Lib.hid rfl
          clear hown hb hx hget HB
          obtain ⟨K, hKd⟩ : ∃ K, min m x.size = K := ⟨_, rfl⟩
          have hK : min (m : Int) (x.size : Int) = (K : Int) := by omega
          have hKs : (K : Int) ≤ (x.size : Int) := by omega
          have hK0 : (0 : Int) ≤ (K : Int) := by omega
          have HKd := Lib.hid hKd
          clear hKd
          go_wp2_with fail
          go_still_tail 15, (by kernel_rfl)
          change wpList _ _ _ _ _ wr.drew
          go_wp2
          go_roundg g
          case measure => omega
          case rel =>
            refine ⟨k + 1, by omega, by omega, by go_num, ?_, (HB2.out.drew).setCell hbg _⟩
            have e : ((cutB m k xs).map Value.string).set k (.string (cutS m x)) = (cutB m (k + 1) xs).map Value.string := by rw [← HS.out, List.map_set]
            rw [← e, hcx.out, HKd.out]
            rw [hcx.out, HKd.out] at HO
            exact HO.out.1.drew
        | zero =>
          obtain rfl : k = xs.length := by omega
          go_wp2_with fail
          go_meet
          exact ⟨rfl, hown, hb⟩
  case rest =>
    obtain ⟨rfl, hown, hb⟩ := hcut
    clear HI hib1 hib2 HM HD
    have hyl : (cutB M xs.length xs).length = xs.length := cutB_length _ _ _
    have hyb := cutB_bytes M xs
    have hys : ∀ y ∈ cutB M xs.length xs, y.size ≤ 13000 := by
      intro y hy
      obtain ⟨j, hj⟩ := List.mem_iff_getElem?.1 hy
      rw [cutB_get] at hj
      obtain ⟨x, hx, rfl⟩ := Option.map_eq_some_iff.1 hj
      have := HEX.out x (List.mem_of_getElem? hx)
      split
      · unfold cutS; rw [ByteArray.size_extract]; omega
      · exact this
    have hval : Hid (valueL s.data.toList = joinTen (trimL (bytesL (cutB M xs.length xs)))) := Lib.hid (by rw [HVAL.out, hyb])
    generalize cutB M xs.length xs = ys at *
    have hgc : g0 < wc.heap.size := (hown.lt g0 rfl).2
    have HS := Lib.hid (strs_of_own' hown)
    have HYS := Lib.hid hys
    have HYL := Lib.hid hyl
    have HBB := Lib.hid hb
    clear hown hyb hys hyl hb HVAL HB
    generalize xs.length = N at *
    clear HEX
    go_upto_block 2 with (fail)
    go_cut [6] (fun fr wx => ∃ f : Nat, f ≤ N ∧ fr = .int .i64 f ∧ Aside (frontL (bytesL ys) = (bytesL ys).drop f) ∧ wc = wx)
    case first =>
      go_wp2_with fail
      go_loopg [6] N (fun g fr wx => ∃ f : Nat, f + g = N ∧ fr = .int .i64 f ∧ Aside (((bytesL ys).take f).all (fun l => !inkB l) = true) ∧ wc = wx)
      case atStart => exact ⟨0, by omega, rfl, Aside.intro (by simp), rfl⟩
      case round =>
        obtain ⟨f, hf, rfl, H, rfl⟩ := hrel
        cases gk with
        | zero =>
          obtain rfl : f = N := by omega
          have hT := Lib.hid (front_end H.out (by unfold bytesL; rw [List.length_map, HYL.out]; omega))
          clear H
          go_wp2_with fail
          go_meet
          exact ⟨_, by omega, rfl, Aside.intro (by rw [hT.out, List.drop_eq_nil_of_le (by unfold bytesL; rw [List.length_map, HYL.out]; omega)]), rfl⟩
        | succ g =>
          have hlt : f < N := by omega
          have hlt' : (f : Int) < (N : Int) := by omega
          obtain ⟨y, hy⟩ : ∃ y, ys[f]? = some y := ⟨_, List.getElem?_eq_getElem (by rw [HYL.out]; omega)⟩
          obtain ⟨b, o, e, _, hcell⟩ := HS.out.2 f y hy
          injection e with e
          injection e with e1 e2
          subst e1 e2
          rw [Nat.zero_add] at hcell
          have HBk := Lib.hid (pbare_any y wc (by have := HYS.out y (List.mem_of_getElem? hy); omega))
          have hyb : (bytesL ys)[f]? = some y.data.toList := by unfold bytesL; rw [List.getElem?_map, hy]; rfl
          cases hi : inkB y.data.toList
          · have hT := Lib.hid (blank_next H.out hyb hi)
            have HIk := Lib.hid hi
            clear H hy hyb hi
            go_wp2_with fail
            refine HBk.out.mono ?_
            rintro e w2 ⟨rfl, rfl⟩
            rw [HIk.out]
            go_wp2_with fail
            go_roundg g
            case measure => omega
            case rel => exact ⟨f + 1, by omega, by go_num, Aside.intro hT.out, rfl⟩
          · have hT := Lib.hid (front_stop H.out hyb hi)
            have HIk := Lib.hid hi
            clear H hy hyb hi
            go_wp2_with fail
            refine HBk.out.mono ?_
            rintro e w2 ⟨rfl, rfl⟩
            rw [HIk.out]
            go_wp2_with fail
            go_meet
            exact ⟨f, by omega, rfl, Aside.intro hT.out, rfl⟩
    case rest =>
      obtain ⟨f, hfN, rfl, HF, rfl⟩ := hcut
      go_upto_block 4 with (fail)
      go_cut [7] (fun tv wx => ∃ t : Nat, f ≤ t ∧ t ≤ N ∧ tv = .int .i64 t ∧ Aside (trimL (bytesL ys) = ((bytesL ys).drop f).take (t - f)) ∧ wc = wx)
      case first =>
        go_wp2_with fail
        go_loopg [7] (N - f) (fun g tv wx => ∃ t : Nat, f ≤ t ∧ t ≤ f + g ∧ t ≤ N ∧ tv = .int .i64 t ∧ Aside (((bytesL ys).drop t).all (fun l => !inkB l) = true) ∧ wc = wx)
        case atStart => exact ⟨N, by omega, by omega, by omega, rfl, Aside.intro (by rw [List.drop_eq_nil_of_le (by unfold bytesL; rw [List.length_map, HYL.out]; omega)]; rfl), rfl⟩
        case round =>
          obtain ⟨t, hft, htg, htN, rfl, H, rfl⟩ := hrel
          by_cases hte : t = f
          · subst hte
            have hT := Lib.hid (back_end HF.out H.out)
            clear H
            go_wp2_with fail
            go_meet
            exact ⟨t, by omega, by omega, rfl, Aside.intro hT.out, rfl⟩
          · have hft1 : f < t := by omega
            obtain ⟨g, rfl⟩ : ∃ g, gk = g + 1 := ⟨gk - 1, by omega⟩
            obtain ⟨u, rfl⟩ : ∃ u, t = u + 1 := ⟨t - 1, by omega⟩
            have hfu : (f : Int) < (u : Int) + 1 := by omega
            have hu0 : (0 : Int) ≤ (u : Int) := by omega
            have hu1 : (u : Int) < (N : Int) := by omega
            obtain ⟨y, hy⟩ : ∃ y, ys[u]? = some y := ⟨_, List.getElem?_eq_getElem (by rw [HYL.out]; omega)⟩
            obtain ⟨b, o, e, _, hcell⟩ := HS.out.2 u y hy
            injection e with e
            injection e with e1 e2
            subst e1 e2
            rw [Nat.zero_add] at hcell
            have HBk := Lib.hid (pbare_any y wc (by have := HYS.out y (List.mem_of_getElem? hy); omega))
            have hyb : (bytesL ys)[u]? = some y.data.toList := by unfold bytesL; rw [List.getElem?_map, hy]; rfl
            cases hi : inkB y.data.toList
            · have hT := Lib.hid (blank_back H.out hyb hi)
              have HIk := Lib.hid hi
              clear H hy hyb hi hte
              go_wp2_with fail
              refine HBk.out.mono ?_
              rintro e w2 ⟨rfl, rfl⟩
              rw [HIk.out]
              go_wp2_with fail
              go_roundg g
              case measure => omega
              case rel => exact ⟨u, by omega, by omega, by omega, by go_num, Aside.intro hT.out, rfl⟩
            · have hT := Lib.hid (back_stop HF.out (by omega) H.out hyb hi)
              have HIk := Lib.hid hi
              clear H hy hyb hi hte
              go_wp2_with fail
              refine HBk.out.mono ?_
              rintro e w2 ⟨rfl, rfl⟩
              rw [HIk.out]
              go_wp2_with fail
              go_meet
              exact ⟨u + 1, by omega, by omega, by go_num, Aside.intro hT.out, rfl⟩
      case rest =>
        obtain ⟨t, hft, htN, rfl, HT, rfl⟩ := hcut
        have hf0 : (0 : Int) ≤ (f : Int) := by omega
        have hft' : (f : Int) ≤ (t : Int) := by omega
        have hzl : Hid (((ys.drop f).take (t - f)).length = t - f) := Lib.hid (by rw [List.length_take, List.length_drop, HYL.out]; omega)
        have hzb : Hid (Lib.join (((ys.drop f).take (t - f)).map (·.data.toList)) (⟨#[10]⟩ : ByteArray).data.toList = valueL s.data.toList) := Lib.hid (by
          show Lib.join _ [10] = _
          rw [join_ten, hval.out, HT.out]; unfold bytesL; rw [List.map_take, List.map_drop])
        have hvl : (valueL s.data.toList).length ≤ 13000 := by have := value_len s.data.toList; rw [← Lib.size_eq] at this; omega
        by_cases hcf : cap = f
        · obtain rfl : t = f := by omega
          have hnil : Hid ((⟨(valueL s.data.toList).toArray⟩ : ByteArray) = ⟨#[]⟩) := Lib.hid (by rw [hval.out, HT.out]; simp [joinTen])
          have HC := Lib.hid hcf
          subst hcf
          have HJ := Lib.hid (fun a c => pjoin_none a c ⟨#[10]⟩ wc)
          have ht0 : cap - cap = 0 := by omega
          go_wp2_with fail
          refine (HJ.out _ _).mono ?_
          rintro e w3 ⟨rfl, rfl⟩
          go_wp2_with fail
          go_ret
          exact ⟨ret_str hnil.out.symm, HBB.out⟩
        · have HJ := Lib.hid (pjoin_many g0 f (cap - f) ((ys.drop f).take (t - f)) ⟨#[10]⟩ wc (fun j x hj => by
            obtain ⟨b, o, e, _, hc⟩ := HS.out.2 (f + j) x (drop_take_get hj)
            injection e with e
            injection e with e1 e2
            subst e1 e2
            rw [Nat.zero_add] at hc
            exact hc) hgc (by rw [hzl.out]; omega) (by rw [hzl.out]; omega) (by rw [hzb.out]; omega))
          rw [hzl.out, hzb.out] at HJ
          go_wp2_with fail
          refine HJ.out.mono ?_
          rintro e w3 ⟨rfl, hb3⟩
          have HB3 := Lib.hid hb3
          clear hb3
          obtain ⟨V, hV⟩ : ∃ V : ByteArray, (⟨(valueL s.data.toList).toArray⟩ : ByteArray) = V := ⟨_, rfl⟩
          have HV := Lib.hid hV
          rw [hV]
          clear hV
          go_wp2_with fail
          go_ret
          exact ⟨ret_str HV.out.symm, HBB.out.trans (HB3.out.mono HBB.out.size)⟩
theorem pvalue (s : ByteArray) (w : World) (hs : s.size ≤ 13000) : Calls Tryz.prog 156 #[.string s] w fun e w' => e = .returned (.string ⟨(valueL s.data.toList).toArray⟩) ∧ Below w.heap.size w w' := pvalue_any s w hs
end Go.Proofs.YtaohniiemhahdaaGreatDoor.Blk
