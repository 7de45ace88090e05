/- The walk of the landed Value. -/
import Derived.Test.YtpkmbhnikilihaaGreatDoorQj22
import Derived.Test.YtpkmbhnikilihaaGreatDoorQj11
namespace Go.Proofs.YtpkmbhnikilihaaGreatDoor.Blk
open Go.RowKit

theorem cutB_zero (k : Nat) (xs : List ByteArray) : cutB 0 k xs = xs := by
  apply List.ext_getElem?
  intro j
  rw [cutB_get]
  cases xs[j]? with
  | none => rfl
  | some x =>
    simp only [Option.map_some]
    split
    · congr 1; unfold cutS; rw [Nat.zero_min]; exact ByteArray.extract_zero_size
    · rfl

theorem drop_take_get {ys : List ByteArray} {f n j : Nat} {x : ByteArray} (h : ((ys.drop f).take n)[j]? = some x) : ys[f + j]? = some x := by
  rw [List.getElem?_take] at h
  split at h
  · rw [List.getElem?_drop] at h; exact h
  · cases h
theorem join_ten : ∀ ls : List (List UInt8), Lib.join ls [10] = joinTen ls := by
  intro ls
  induction ls with
  | nil => rfl
  | cons x t ih =>
    cases t with
    | nil => exact Lib.join_one x [10]
    | cons y t =>
      rw [Lib.join_cons]
      show _ = x ++ 10 :: joinTen (y :: t)
      rw [← ih, Lib.join_cons]
      simp [Lib.joinTail]

set_option maxRecDepth 100000 in
set_option maxHeartbeats 1000000 in
theorem pvalue_any (s : ByteArray) (w : World) (hs : s.size ≤ 13000) :
    Calls Tryz.prog 261 #[.string s] w fun e w' => e = .returned (.string ⟨(valueL s.data.toList).toArray⟩) ∧ Below w.heap.size w w' := by
  have HR := Lib.hid (plines_any s w hs)
  go_enter Tryz.func261, Tryz.ntmps261
  go_wp2_with fail
  refine HR.out.mono ?_
  rintro e w1 ⟨A, cap, rfl, hown, hb⟩
  have hroom := lines_room (s.data.toList.length + 1) s.data.toList (by omega)
  rw [← Lib.size_eq] at hroom
  have hxs : ∀ x ∈ linesB s.data.toList, x.size ≤ 13000 := by
    intro x hx
    obtain ⟨l, hl, rfl⟩ := List.mem_map.1 hx
    have := hroom.2.1 l hl
    show l.length ≤ _
    omega
  have hN : (linesB s.data.toList).length ≤ 13001 := by unfold linesB; rw [List.length_map]; omega
  have hN1 : 1 ≤ (linesB s.data.toList).length := by
    unfold linesB
    rw [List.length_map]
    have := linesL_ne s.data.toList
    cases h : linesL s.data.toList with
    | nil => exact absurd h this
    | cons _ _ => simp
  clear hroom
  obtain ⟨g0, rfl, hbg, hgl, hcap⟩ := strs_some hown (by omega)
  have HI := Lib.hid (pindent_any (some ⟨g0, 0, none⟩) (linesB s.data.toList).length cap (linesB s.data.toList) w1 (by omega) (strs_of_own hown).2 (fun x hx => by have := hxs x hx; omega))
  have hib := indTo_bd _ (fun x hx => by have := hxs x hx; omega) (linesB s.data.toList).length
  rw [indTo_all (Nat.le_refl _)] at hib
  have HVAL : Hid (valueL s.data.toList = joinTen (trimL (cutL (max (indentL (bytesL (linesB s.data.toList))) 0).toNat (bytesL (linesB s.data.toList))))) := Lib.hid (by rw [linesB_bytes]; rfl)
  generalize linesB s.data.toList = xs at *
  generalize hv : indentL (bytesL xs) = v at *
  have hib1 := hib.1
  have hib2 := hib.2
  have HEX := Lib.hid hxs
  have HB := Lib.hid hb
  clear hxs hv hib hb HR
  go_upto_if 13 with (fail)
  refine HI.out.mono ?_
  rintro e w2 ⟨rfl, rfl⟩
  obtain ⟨tst, hd⟩ : ∃ t : Bool, decide (0 < v) = t := ⟨_, rfl⟩
  go_upto_if 13 with (fail)
  have HD := Lib.hid hd
  clear hd
  obtain ⟨M, hM⟩ : ∃ M, (max v 0).toNat = M := ⟨_, rfl⟩
  have hm1 : M ≤ 100000 := by omega
  rw [hM] at HVAL
  have HM := Lib.hid hM
  clear hM
  go_cut [3] (fun l wx => l = .slice (some ⟨g0, 0, none⟩) xs.length cap ∧ wx.ownsRow w.heap.size 9 1 (.slice (some ⟨g0, 0, none⟩) xs.length cap) xs.length ((cutB M xs.length xs).map Value.string) ∧ Below w.heap.size w wx)
  case first =>
    cases tst
    · obtain rfl : M = 0 := by have h1 := HM.out; have h2 := of_decide_eq_false HD.out; omega
      go_wp2_with fail
      go_meet
      exact ⟨rfl, by rw [cutB_zero]; exact hown, HB.out⟩
    · have hv0 := of_decide_eq_true HD.out
      obtain ⟨m, rfl⟩ : ∃ m : Nat, v = m := ⟨v.toNat, by omega⟩
      obtain rfl : m = M := by have := HM.out; omega
      clear HI hib1 hib2 HM HD
      go_wp2_with fail
      go_loopg [5] (xs.length - 1) (fun g i wx => ∃ k : Nat, 1 ≤ k ∧ k + g = xs.length ∧ i = .int .i64 k ∧ wx.ownsRow w.heap.size 9 1 (.slice (some ⟨g0, 0, none⟩) xs.length cap) xs.length ((cutB m k xs).map Value.string) ∧ Below w.heap.size w wx)
      case atStart => exact ⟨1, by omega, by omega, rfl, by rw [cutB_start]; exact hown, HB.out⟩
      case round =>
        obtain ⟨k, hk1, hk, rfl, hown, hb⟩ := hrel
        cases gk with
        | succ g =>
          have hlt : k < xs.length := by omega
          have hlt' : (k : Int) < (xs.length : Int) := by omega
          have hk0 : (0 : Int) ≤ (k : Int) := by omega
          obtain ⟨x, hx⟩ : ∃ x, xs[k]? = some x := ⟨_, List.getElem?_eq_getElem hlt⟩
          have hget : (cutB m k xs)[k]? = some x := by
            rw [cutB_get, hx]
            simp only [Option.map_some]
            rw [if_neg (by omega)]
          have c1 : wr.cell? ⟨g0, k, none⟩ = some (.string x) := by
            rw [World.ownsRow.cellAt hown k (by omega), List.getElem?_map, hget]; rfl
          have f1 : wr.frozen? ⟨g0, k, none⟩ = false := World.ownsRow.frozenAt hown k
          have hxs : x.size ≤ 13000 := HEX.out x (List.mem_of_getElem? hx)
          have HO := Lib.hid (World.ownsRow.stored hown k (.string (cutS m x)))
          have HS := Lib.hid (cutB_set (m := m) hk1 hx)
          have HB2 := Lib.hid hb
          have hcx : Hid (cutS m x = x.extract (min m x.size) x.size) := Lib.hid rfl
          clear hown hb hx hget HB
          obtain ⟨K, hKd⟩ : ∃ K, min m x.size = K := ⟨_, rfl⟩
          have hK : min (m : Int) (x.size : Int) = (K : Int) := by omega
          have hKs : (K : Int) ≤ (x.size : Int) := by omega
          have hK0 : (0 : Int) ≤ (K : Int) := by omega
          have HKd := Lib.hid hKd
          clear hKd
          go_wp2_with fail
          go_still_tail 15, (by kernel_rfl)
          change wpList _ _ _ _ _ wr.drew
          go_wp2
          go_roundg g
          case measure => omega
          case rel =>
            refine ⟨k + 1, by omega, by omega, by go_num, ?_, (HB2.out.drew).setCell hbg _⟩
            have e : ((cutB m k xs).map Value.string).set k (.string (cutS m x)) = (cutB m (k + 1) xs).map Value.string := by rw [← HS.out, List.map_set]
            rw [← e, hcx.out, HKd.out]
            rw [hcx.out, HKd.out] at HO
            exact HO.out.1.drew
        | zero =>
          obtain rfl : k = xs.length := by omega
          go_wp2_with fail
          go_meet
          exact ⟨rfl, hown, hb⟩
  case rest =>
    obtain ⟨rfl, hown, hb⟩ := hcut
    clear HI hib1 hib2 HM HD
    have hyl : (cutB M xs.length xs).length = xs.length := cutB_length _ _ _
    have hyb := cutB_bytes M xs
    have hys : ∀ y ∈ cutB M xs.length xs, y.size ≤ 13000 := by
      intro y hy
      obtain ⟨j, hj⟩ := List.mem_iff_getElem?.1 hy
      rw [cutB_get] at hj
      obtain ⟨x, hx, rfl⟩ := Option.map_eq_some_iff.1 hj
      have := HEX.out x (List.mem_of_getElem? hx)
      split
      · unfold cutS; rw [ByteArray.size_extract]; omega
      · exact this
    have hval : Hid (valueL s.data.toList = joinTen (trimL (bytesL (cutB M xs.length xs)))) := Lib.hid (by rw [HVAL.out, hyb])
    generalize cutB M xs.length xs = ys at *
    have hgc : g0 < wc.heap.size := (hown.lt g0 rfl).2
    have HS := Lib.hid (strs_of_own' hown)
    have HYS := Lib.hid hys
    have HYL := Lib.hid hyl
    have HBB := Lib.hid hb
    clear hown hyb hys hyl hb HVAL HB
    generalize xs.length = N at *
    clear HEX
    go_upto_block 2 with (fail)
    go_cut [6] (fun fr wx => ∃ f : Nat, f ≤ N ∧ fr = .int .i64 f ∧ Aside (frontL (bytesL ys) = (bytesL ys).drop f) ∧ wc = wx)
    case first =>
      go_wp2_with fail
      go_loopg [6] N (fun g fr wx => ∃ f : Nat, f + g = N ∧ fr = .int .i64 f ∧ Aside (((bytesL ys).take f).all (fun l => !inkB l) = true) ∧ wc = wx)
      case atStart => exact ⟨0, by omega, rfl, Aside.intro (by simp), rfl⟩
      case round =>
        obtain ⟨f, hf, rfl, H, rfl⟩ := hrel
        cases gk with
        | zero =>
          obtain rfl : f = N := by omega
          have hT := Lib.hid (front_end H.out (by unfold bytesL; rw [List.length_map, HYL.out]; omega))
          clear H
          go_wp2_with fail
          go_meet
          exact ⟨_, by omega, rfl, Aside.intro (by rw [hT.out, List.drop_eq_nil_of_le (by unfold bytesL; rw [List.length_map, HYL.out]; omega)]), rfl⟩
        | succ g =>
          have hlt : f < N := by omega
          have hlt' : (f : Int) < (N : Int) := by omega
          obtain ⟨y, hy⟩ : ∃ y, ys[f]? = some y := ⟨_, List.getElem?_eq_getElem (by rw [HYL.out]; omega)⟩
          obtain ⟨b, o, e, _, hcell⟩ := HS.out.2 f y hy
          injection e with e
          injection e with e1 e2
          subst e1 e2
          rw [Nat.zero_add] at hcell
          have HBk := Lib.hid (pbare_any y wc (by have := HYS.out y (List.mem_of_getElem? hy); omega))
          have hyb : (bytesL ys)[f]? = some y.data.toList := by unfold bytesL; rw [List.getElem?_map, hy]; rfl
          cases hi : inkB y.data.toList
          · have hT := Lib.hid (blank_next H.out hyb hi)
            have HIk := Lib.hid hi
            clear H hy hyb hi
            go_wp2_with fail
            refine HBk.out.mono ?_
            rintro e w2 ⟨rfl, rfl⟩
            rw [HIk.out]
            go_wp2_with fail
            go_roundg g
            case measure => omega
            case rel => exact ⟨f + 1, by omega, by go_num, Aside.intro hT.out, rfl⟩
          · have hT := Lib.hid (front_stop H.out hyb hi)
            have HIk := Lib.hid hi
            clear H hy hyb hi
            go_wp2_with fail
            refine HBk.out.mono ?_
            rintro e w2 ⟨rfl, rfl⟩
            rw [HIk.out]
            go_wp2_with fail
            go_meet
            exact ⟨f, by omega, rfl, Aside.intro hT.out, rfl⟩
    case rest =>
      obtain ⟨f, hfN, rfl, HF, rfl⟩ := hcut
      go_upto_block 4 with (fail)
      go_cut [7] (fun tv wx => ∃ t : Nat, f ≤ t ∧ t ≤ N ∧ tv = .int .i64 t ∧ Aside (trimL (bytesL ys) = ((bytesL ys).drop f).take (t - f)) ∧ wc = wx)
      case first =>
        go_wp2_with fail
        go_loopg [7] (N - f) (fun g tv wx => ∃ t : Nat, f ≤ t ∧ t ≤ f + g ∧ t ≤ N ∧ tv = .int .i64 t ∧ Aside (((bytesL ys).drop t).all (fun l => !inkB l) = true) ∧ wc = wx)
        case atStart => exact ⟨N, by omega, by omega, by omega, rfl, Aside.intro (by rw [List.drop_eq_nil_of_le (by unfold bytesL; rw [List.length_map, HYL.out]; omega)]; rfl), rfl⟩
        case round =>
          obtain ⟨t, hft, htg, htN, rfl, H, rfl⟩ := hrel
          by_cases hte : t = f
          · subst hte
            have hT := Lib.hid (back_end HF.out H.out)
            clear H
            go_wp2_with fail
            go_meet
            exact ⟨t, by omega, by omega, rfl, Aside.intro hT.out, rfl⟩
          · have hft1 : f < t := by omega
            obtain ⟨g, rfl⟩ : ∃ g, gk = g + 1 := ⟨gk - 1, by omega⟩
            obtain ⟨u, rfl⟩ : ∃ u, t = u + 1 := ⟨t - 1, by omega⟩
            have hfu : (f : Int) < (u : Int) + 1 := by omega
            have hu0 : (0 : Int) ≤ (u : Int) := by omega
            have hu1 : (u : Int) < (N : Int) := by omega
            obtain ⟨y, hy⟩ : ∃ y, ys[u]? = some y := ⟨_, List.getElem?_eq_getElem (by rw [HYL.out]; omega)⟩
            obtain ⟨b, o, e, _, hcell⟩ := HS.out.2 u y hy
            injection e with e
            injection e with e1 e2
            subst e1 e2
            rw [Nat.zero_add] at hcell
            have HBk := Lib.hid (pbare_any y wc (by have := HYS.out y (List.mem_of_getElem? hy); omega))
            have hyb : (bytesL ys)[u]? = some y.data.toList := by unfold bytesL; rw [List.getElem?_map, hy]; rfl
            cases hi : inkB y.data.toList
            · have hT := Lib.hid (blank_back H.out hyb hi)
              have HIk := Lib.hid hi
              clear H hy hyb hi hte
              go_wp2_with fail
              refine HBk.out.mono ?_
              rintro e w2 ⟨rfl, rfl⟩
              rw [HIk.out]
              go_wp2_with fail
              go_roundg g
              case measure => omega
              case rel => exact ⟨u, by omega, by omega, by omega, by go_num, Aside.intro hT.out, rfl⟩
            · have hT := Lib.hid (back_stop HF.out (by omega) H.out hyb hi)
              have HIk := Lib.hid hi
              clear H hy hyb hi hte
              go_wp2_with fail
              refine HBk.out.mono ?_
              rintro e w2 ⟨rfl, rfl⟩
              rw [HIk.out]
              go_wp2_with fail
              go_meet
              exact ⟨u + 1, by omega, by omega, by go_num, Aside.intro hT.out, rfl⟩
      case rest =>
        obtain ⟨t, hft, htN, rfl, HT, rfl⟩ := hcut
        have hf0 : (0 : Int) ≤ (f : Int) := by omega
        have hft' : (f : Int) ≤ (t : Int) := by omega
        have hzl : Hid (((ys.drop f).take (t - f)).length = t - f) := Lib.hid (by rw [List.length_take, List.length_drop, HYL.out]; omega)
        have hzb : Hid (Lib.join (((ys.drop f).take (t - f)).map (·.data.toList)) (⟨#[10]⟩ : ByteArray).data.toList = valueL s.data.toList) := Lib.hid (by
          show Lib.join _ [10] = _
          rw [join_ten, hval.out, HT.out]; unfold bytesL; rw [List.map_take, List.map_drop])
        have hvl : (valueL s.data.toList).length ≤ 13000 := by have := value_len s.data.toList; rw [← Lib.size_eq] at this; omega
        by_cases hcf : cap = f
        · obtain rfl : t = f := by omega
          have hnil : Hid ((⟨(valueL s.data.toList).toArray⟩ : ByteArray) = ⟨#[]⟩) := Lib.hid (by rw [hval.out, HT.out]; simp [joinTen])
          have HC := Lib.hid hcf
          subst hcf
          have HJ := Lib.hid (fun a c => pjoin_none a c ⟨#[10]⟩ wc)
          have ht0 : cap - cap = 0 := by omega
          go_wp2_with fail
          refine (HJ.out _ _).mono ?_
          rintro e w3 ⟨rfl, rfl⟩
          go_wp2_with fail
          go_ret
          exact ⟨ret_str hnil.out.symm, HBB.out⟩
        · have HJ := Lib.hid (pjoin_many g0 f (cap - f) ((ys.drop f).take (t - f)) ⟨#[10]⟩ wc (fun j x hj => by
            obtain ⟨b, o, e, _, hc⟩ := HS.out.2 (f + j) x (drop_take_get hj)
            injection e with e
            injection e with e1 e2
            subst e1 e2
            rw [Nat.zero_add] at hc
            exact hc) hgc (by rw [hzl.out]; omega) (by rw [hzl.out]; omega) (by rw [hzb.out]; omega))
          rw [hzl.out, hzb.out] at HJ
          go_wp2_with fail
          refine HJ.out.mono ?_
          rintro e w3 ⟨rfl, hb3⟩
          have HB3 := Lib.hid hb3
          clear hb3
          obtain ⟨V, hV⟩ : ∃ V : ByteArray, (⟨(valueL s.data.toList).toArray⟩ : ByteArray) = V := ⟨_, rfl⟩
          have HV := Lib.hid hV
          rw [hV]
          clear hV
          go_wp2_with fail
          go_ret
          exact ⟨ret_str HV.out.symm, HBB.out.trans (HB3.out.mono HBB.out.size)⟩
theorem pvalue (s : ByteArray) (w : World) (hs : s.size ≤ 13000) : Calls Tryz.prog 261 #[.string s] w fun e w' => e = .returned (.string ⟨(valueL s.data.toList).toArray⟩) ∧ Below w.heap.size w w' := pvalue_any s w hs
end Go.Proofs.YtpkmbhnikilihaaGreatDoor.Blk
/- The walks of token's lineQuote, blockQuote and quote. -/
namespace Go.Proofs.YtpkmbhnikilihaaGreatDoor
open Go.RowKit

theorem builder_below {T e : TypeId} {B b : Nat} {bs : List Value} {w w' : World} (h : Lib.IsBuilderF T e B b bs w) (hb : Below w.heap.size w w') : Lib.IsBuilderF T e B b bs w' := by
  have one : ∀ p, Lib.BuilderAtF T e B b p bs w → Lib.BuilderAtF T e B b p bs w' := fun p hp => by
    have hlt := hp.lt
    obtain ⟨hB, v, hc, hown, hne⟩ := hp
    exact ⟨hB, v, (hb.block b hlt).trans hc, hown.kept (row := none) ⟨hb.os, hb.tape, hb.output, hb.size, fun j hj _ => hb.block j hj⟩ (Classical.em _), hne⟩
  exact h.elim (fun x => .inl (one _ x)) (fun x => .inr (one _ x))
theorem unitsOf_ge : ∀ cs : List Int, cs.length ≤ (unitsOf cs).length := by
  intro cs
  induction cs with
  | nil => simp
  | cons c cs ih =>
    show _ ≤ (unitOf c ++ unitsOf cs).length
    rw [List.length_append, List.length_cons]
    have : 1 ≤ (unitOf c).length := by unfold unitOf; split <;> simp
    omega
theorem bytesOf_len : ∀ cs : List Int, (bytesOf cs).length ≤ 4 * cs.length := by
  intro cs
  induction cs with
  | nil => simp [bytesOf]
  | cons c cs ih =>
    show (Lib.encodeRune c ++ bytesOf cs).length ≤ _
    have := encode_len c
    rw [List.length_append, List.length_cons]
    omega
theorem joinL_len {us : List Int} {x : List UInt8} (h : joinL us = some x) : x.length ≤ 4 * us.length := by
  obtain ⟨cs, hc, rfl⟩ := Option.map_eq_some_iff.1 h
  have h1 := (units_of_pairUp us.length us cs (Nat.le_refl _) hc).1
  have h2 := unitsOf_ge cs
  have h3 := bytesOf_len cs
  rw [h1] at h2
  omega
theorem escL_size {l : List UInt8} {p : List UInt8 × Nat} (h : escL l = some p) : p.1.length ≤ p.2 := by
  unfold escL at h
  split at h
  · split at h
    · obtain ⟨x, _, rfl⟩ := Option.map_eq_some_iff.1 h
      simp
    · cases h
  · obtain ⟨x, hx, rfl⟩ := Option.map_eq_some_iff.1 h
    have := joinL_len hx
    simp only
    omega

theorem ret_pairN {x y : ByteArray} {n m : Int} (hx : x = y) (h : n = m) : Ending.returned (.tuple #[.string x, .int .i64 n]) = .returned (.tuple #[.string y, .int .i64 m]) := by rw [hx, h]
def pairS (o : Option (List UInt8 × Nat)) (m : Nat) : Value := match o with | some q => .tuple #[.string ⟨q.1.toArray⟩, .int .i64 (m + q.2 : Nat)] | none => .tuple #[.string ⟨#[]⟩, .int .i64 0]
def lineTo (l : List UInt8) (k : Nat) (done : List UInt8) : Prop := lineL (l.drop 1) = (lineL (l.drop k)).map fun q => (done ++ q.1, (k - 1) + q.2)
theorem lineTo.stop {s : ByteArray} {k : Nat} {done : List UInt8} (h : lineTo s.data.toList k done) (hk : s.size ≤ k) : lineL (s.data.toList.drop 1) = none := by
  rw [h, drop_all s k hk]; rfl
theorem lineTo.step {s : ByteArray} {k : Nat} {done : List UInt8} (h : lineTo s.data.toList k done) (h1 : 1 ≤ k) (hk : k < s.size) (a : (s[k] == 34) = false) (b : (s[k] == 10) = false) (c : (s[k] == 13) = false) (d : (s[k] == 92) = false) : lineTo s.data.toList (k + 1) (done ++ [s[k]]) := by
  unfold lineTo at *
  rw [h, drop_at s k hk, lineL_cons, a, b, c, d]
  simp only [Bool.or_self, Bool.false_eq_true, if_false, Option.map_map]
  congr 1
  funext q
  simp only [Function.comp, Prod.mk.injEq, List.append_assoc, List.singleton_append, true_and]
  omega
theorem lineTo.esc {s : ByteArray} {k : Nat} {done : List UInt8} {p : List UInt8 × Nat} (h : lineTo s.data.toList k done) (h1 : 1 ≤ k) (hk : k < s.size) (d : (s[k] == 92) = true) (he : escL (s.data.toList.drop k) = some p) : lineTo s.data.toList (k + p.2) (done ++ p.1) := by
  unfold lineTo at *
  have d' : s[k] = 92 := by simpa using d
  have hc : s.data.toList.drop k = 92 :: s.data.toList.drop (k + 1) := by rw [drop_at s k hk, d']
  rw [hc] at he h
  rw [h, lineL_cons, he, ← hc]
  simp only [show ((92 : UInt8) == 34) = false from rfl, show ((92 : UInt8) == 10 || (92 : UInt8) == 13) = false from rfl, show ((92 : UInt8) == 92) = true from rfl, Bool.false_eq_true, if_false, if_true, Option.map_map, List.drop_drop]
  congr 1
  funext q
  simp only [Function.comp, Prod.mk.injEq, List.append_assoc, true_and]
  omega
theorem lineTo.bad {s : ByteArray} {k : Nat} {done : List UInt8} (h : lineTo s.data.toList k done) (hk : k < s.size) (d : (s[k] == 92) = true) (he : escL (s.data.toList.drop k) = none) : lineL (s.data.toList.drop 1) = none := by
  unfold lineTo at *
  have d' : s[k] = 92 := by simpa using d
  have hc : s.data.toList.drop k = 92 :: s.data.toList.drop (k + 1) := by rw [drop_at s k hk, d']
  rw [hc] at he h
  rw [h, lineL_cons, he]
  rfl
theorem lineTo.eol {s : ByteArray} {k : Nat} {done : List UInt8} (h : lineTo s.data.toList k done) (hk : k < s.size) (a : (s[k] == 34) = false) (b : (s[k] == 10 || s[k] == 13) = true) : lineL (s.data.toList.drop 1) = none := by
  unfold lineTo at *
  rw [h, drop_at s k hk, lineL_cons, a, b]
  rfl
theorem lineTo.fin {s : ByteArray} {k : Nat} {done : List UInt8} (h : lineTo s.data.toList k done) (h1 : 1 ≤ k) (hk : k < s.size) (a : (s[k] == 34) = true) : lineL (s.data.toList.drop 1) = some (done, k) := by
  unfold lineTo at *
  rw [h, drop_at s k hk, lineL_cons, a]
  simp
  omega

set_option maxRecDepth 100000 in
set_option maxHeartbeats 1000000 in
theorem line_any (s : ByteArray) (w : World) (hs : s.size ≤ 9000) (hs1 : 1 ≤ s.size) (h3 : Laid3 w) : Calls Tryz.prog 230 #[.string s] w fun e w' => e = .returned (pairS (lineL (s.data.toList.drop 1)) 1) ∧ Below w.heap.size w w' := by
  have H3 := Lib.hid h3
  clear h3
  go_enter Tryz.func230, Tryz.ntmps230
  go_wp2
  go_loopg [5] (s.size - 1) (fun g i wx => ∃ (k : Nat) (done : List UInt8), k + g = s.size ∧ 1 ≤ k ∧ i = .int .i64 k ∧ done.length ≤ k ∧ Below w.heap.size w wx ∧ Aside (Lib.IsBuilderF 102 5 w.heap.size w.heap.size (Lib.byteCells done) wx) ∧ Aside (lineTo s.data.toList k done))
  case atStart => exact ⟨1, [], by omega, by omega, rfl, by simp, (Below.refl _ _).alloc (Nat.le_refl _) _, Aside.intro (Lib.IsBuilderF.of (Lib.fresh_isBuilder _ _ _)), Aside.intro (by unfold lineTo; cases lineL (s.data.toList.drop 1) <;> simp)⟩
  case round =>
    obtain ⟨k, done, hk, hk1, rfl, hdl, hb, HBU, HT⟩ := hrel
    have hbs := hb.size
    have H3r := Lib.hid (H3.out.below hb)
    have HB := Lib.hid hb
    clear hb
    by_cases hlt : k < s.size
    · have hlt' : (k : Int) < (s.size : Int) := by omega
      cases c34 : (s[k] == 34)
      · obtain ⟨a1, a2⟩ := beqF c34 34 rfl
        cases c10 : (s[k] == 10)
        · obtain ⟨b1, b2⟩ := beqF c10 10 rfl
          cases c13 : (s[k] == 13)
          · obtain ⟨d1, d2⟩ := beqF c13 13 rfl
            cases c92 : (s[k] == 92)
            · obtain ⟨e1, e2⟩ := beqF c92 92 rfl
              have hT := Lib.hid (HT.out.step hk1 hlt c34 c10 c13 c92)
              have HW := Lib.hid (writeByte w.heap.size w.heap.size (Lib.byteCells done) (s[k].toNat : Int) wr HBU.out (by rw [Lib.byteCells_length]; omega) hbs)
              clear HT HBU c34 c10 c13 c92
              go_wp2_with fail
              refine HW.out.mono ?_
              rintro e w2 ⟨rfl, hB2, hb2, _⟩
              have HB2 := Lib.hid hB2
              have HBb := Lib.hid hb2
              clear hB2 hb2
              go_wp2_with fail
              go_roundg (gk - 1)
              case measure => omega
              case rel => exact ⟨k + 1, done ++ [s[k]], by omega, by omega, by go_num, by simp; omega, HB.out.trans HBb.out, Aside.intro (.inr (by have := HB2.out; rwa [show Lib.byteCells done ++ [Value.int .u8 (s[k].toNat : Int)] = Lib.byteCells (done ++ [s[k]]) by simp [Lib.byteCells]] at this)), Aside.intro hT.out⟩
            · obtain ⟨e1, e2⟩ := beqT c92 92 rfl
              have hE := escaped_any (s.extract k s.size) wr (by rw [ext_size]; omega) H3r.out
              rw [ext_data] at hE
              unfold escS at hE
              cases he : escL (s.data.toList.drop k) with
              | none =>
                rw [he] at hE
                have HE := Lib.hid hE
                have hr : Hid (pairS (lineL (s.data.toList.drop 1)) 1 = .tuple #[.string ⟨#[]⟩, .int .i64 0]) := Lib.hid (by rw [HT.out.bad hlt c92 he]; rfl)
                clear HT HBU c34 c10 c13 c92 hE he
                go_wp2_with fail
                refine HE.out.mono ?_
                rintro e w2 ⟨rfl, hb2⟩
                have HBb := Lib.hid hb2
                clear hb2
                go_wp2_with fail
                go_ret2
                exact ⟨by rw [hr.out]; rfl, HB.out.trans (HBb.out.mono hbs)⟩
              | some p =>
                obtain ⟨x, n⟩ := p
                have hT := Lib.hid (HT.out.esc hk1 hlt c92 he)
                have hpl := escL_size he
                have hp2 := escL_le he
                rw [List.length_drop, len_data] at hp2
                simp only at hpl hp2
                rw [he] at hE
                have HE := Lib.hid hE
                have n0 : ((n : Int) == 0) = false := by simp; omega
                clear HT c34 c10 c13 c92 hE he
                go_wp2_with fail
                refine HE.out.mono ?_
                rintro e w2 ⟨rfl, hb2⟩
                have HW := Lib.hid (writeString w.heap.size w.heap.size (Lib.byteCells done) ⟨x.toArray⟩ w2 (builder_below HBU.out hb2) (by rw [Lib.byteCells_length, size_mk]; omega) (by have := hb2.size; omega))
                have HBb := Lib.hid hb2
                have hb2s := hb2.size
                clear hb2 HBU
                go_wp2_with fail
                refine HW.out.mono ?_
                rintro e w3 ⟨rfl, hB3, hb3, _⟩
                have HB3 := Lib.hid hB3
                have HBc := Lib.hid hb3
                clear hB3 hb3
                go_wp2_with fail
                go_roundg (gk - n)
                case measure => omega
                case rel => exact ⟨k + n, done ++ x, by omega, by omega, by go_num, by simp; omega, HB.out.trans ((HBb.out.mono hbs).trans HBc.out), Aside.intro (.inr (by have := HB3.out; rwa [show Lib.byteCells done ++ Lib.strCells ⟨x.toArray⟩ = Lib.byteCells (done ++ x) by rw [Lib.strCells_eq]; simp [Lib.byteCells]] at this)), Aside.intro hT.out⟩
          · obtain ⟨d1, d2⟩ := beqT c13 13 rfl
            have hr : Hid (pairS (lineL (s.data.toList.drop 1)) 1 = .tuple #[.string ⟨#[]⟩, .int .i64 0]) := Lib.hid (by rw [HT.out.eol hlt c34 (by rw [c13, Bool.or_true])]; rfl)
            clear HT HBU c34 c10 c13
            go_wp2_with fail
            go_ret2
            exact ⟨by rw [hr.out]; rfl, HB.out⟩
        · obtain ⟨b1, b2⟩ := beqT c10 10 rfl
          have hr : Hid (pairS (lineL (s.data.toList.drop 1)) 1 = .tuple #[.string ⟨#[]⟩, .int .i64 0]) := Lib.hid (by rw [HT.out.eol hlt c34 (by rw [c10, Bool.true_or])]; rfl)
          clear HT HBU c34 c10
          go_wp2_with fail
          go_ret2
          exact ⟨by rw [hr.out]; rfl, HB.out⟩
      · obtain ⟨a1, a2⟩ := beqT c34 34 rfl
        have hr : Hid (pairS (lineL (s.data.toList.drop 1)) 1 = .tuple #[.string ⟨done.toArray⟩, .int .i64 (1 + k : Nat)]) := Lib.hid (by rw [HT.out.fin hk1 hlt c34]; rfl)
        have HC := Lib.hid (builderText w.heap.size w.heap.size done wr HBU.out hbs)
        clear HT HBU c34
        go_wp2_with fail
        refine HC.out.mono ?_
        rintro e w2 ⟨rfl, _, hb2, _⟩
        have HBb := Lib.hid hb2
        clear hb2
        go_wp2_with fail
        go_ret2
        exact ⟨by rw [hr.out]; exact ret_pairN rfl (by omega), HB.out.trans HBb.out⟩
    · obtain rfl : k = s.size := by omega
      have hr : Hid (pairS (lineL (s.data.toList.drop 1)) 1 = .tuple #[.string ⟨#[]⟩, .int .i64 0]) := Lib.hid (by rw [HT.out.stop (Nat.le_refl _)]; rfl)
      clear HT HBU
      go_wp2_with fail
      go_ret2
      exact ⟨by rw [hr.out]; rfl, HB.out⟩
end Go.Proofs.YtpkmbhnikilihaaGreatDoor
/- The walks of token's blockQuote and quote. -/
namespace Go.Proofs.YtpkmbhnikilihaaGreatDoor
open Go.RowKit

def rawTo (l : List UInt8) (k : Nat) (done : List UInt8) : Prop := rawL (l.drop 3) = (rawL (l.drop k)).map fun q => (done ++ q.1, (k - 3) + q.2)
theorem rawTo.stop {s : ByteArray} {k : Nat} {done : List UInt8} (h : rawTo s.data.toList k done) (hk : s.size ≤ k) : rawL (s.data.toList.drop 3) = none := by
  rw [h, drop_all s k hk]; rfl
theorem rawTo.step {s : ByteArray} {k : Nat} {done : List UInt8} (h : rawTo s.data.toList k done) (h3 : 3 ≤ k) (hk : k < s.size) (a : pre [34, 34, 34] (s.data.toList.drop k) = false) (b : pre [92, 34, 34, 34] (s.data.toList.drop k) = false) : rawTo s.data.toList (k + 1) (done ++ [s[k]]) := by
  unfold rawTo at *
  rw [drop_at s k hk] at a b
  rw [h, drop_at s k hk, rawL_cons, a, b]
  simp only [Bool.false_eq_true, if_false, Option.map_map]
  congr 1
  funext q
  simp only [Function.comp, Prod.mk.injEq, List.append_assoc, List.singleton_append, true_and]
  omega
theorem rawTo.four {s : ByteArray} {k : Nat} {done : List UInt8} (h : rawTo s.data.toList k done) (h3 : 3 ≤ k) (hk : k < s.size) (a : pre [34, 34, 34] (s.data.toList.drop k) = false) (b : pre [92, 34, 34, 34] (s.data.toList.drop k) = true) : rawTo s.data.toList (k + 4) (done ++ [34, 34, 34]) := by
  unfold rawTo at *
  have hd : s.data.toList.drop (k + 4) = (s[k] :: s.data.toList.drop (k + 1)).drop 4 := by rw [← drop_at s k hk, List.drop_drop]
  rw [drop_at s k hk] at a b
  rw [hd, h, drop_at s k hk, rawL_cons, a, b]
  simp only [Bool.false_eq_true, if_false, if_true, Option.map_map]
  congr 1
  funext q
  simp only [Function.comp, Prod.mk.injEq, List.append_assoc, true_and]
  omega
theorem rawTo.fin {s : ByteArray} {k : Nat} {done : List UInt8} (h : rawTo s.data.toList k done) (hk : k < s.size) (a : pre [34, 34, 34] (s.data.toList.drop k) = true) : rawL (s.data.toList.drop 3) = some (done, k - 3 + 3) := by
  unfold rawTo at *
  rw [drop_at s k hk] at a
  rw [h, drop_at s k hk, rawL_cons, a]
  simp
theorem hasP_at (s q : ByteArray) (k : Nat) (w : World) (b : Bool) (h : pre q.data.toList (s.data.toList.drop k) = b) : Calls Tryz.prog 199 #[.string (s.extract k s.size), .string q] w fun e w' => e = .returned (.bool b) ∧ w = w' :=
  hasP (s.extract k s.size) q w b (by rw [ext_data]; exact h)

def blockL (l : List UInt8) : Option (List UInt8 × Nat) := (rawL (l.drop 3)).map fun q => (Blk.valueL q.1, q.2)

set_option maxRecDepth 100000 in
set_option maxHeartbeats 1000000 in
theorem blockq_any (s : ByteArray) (w : World) (hs : s.size ≤ 9000) (hs3 : 3 ≤ s.size) : Calls Tryz.prog 229 #[.string s] w fun e w' => e = .returned (pairS (blockL s.data.toList) 3) ∧ Below w.heap.size w w' := by
  go_enter Tryz.func229, Tryz.ntmps229
  go_wp2
  go_loopg [5] (s.size - 3) (fun g i wx => ∃ (k : Nat) (done : List UInt8), k + g = s.size ∧ 3 ≤ k ∧ i = .int .i64 k ∧ done.length ≤ k ∧ Below w.heap.size w wx ∧ Aside (Lib.IsBuilderF 102 5 w.heap.size w.heap.size (Lib.byteCells done) wx) ∧ Aside (rawTo s.data.toList k done))
  case atStart => exact ⟨3, [], by omega, by omega, rfl, by simp, (Below.refl _ _).alloc (Nat.le_refl _) _, Aside.intro (Lib.IsBuilderF.of (Lib.fresh_isBuilder _ _ _)), Aside.intro (by unfold rawTo; cases rawL (s.data.toList.drop 3) <;> simp)⟩
  case round =>
    obtain ⟨k, done, hk, hk3, rfl, hdl, hb, HBU, HT⟩ := hrel
    have hbs := hb.size
    have HB := Lib.hid hb
    clear hb
    by_cases hlt : k < s.size
    · have hlt' : (k : Int) < (s.size : Int) := by omega
      have hk0 : (0 : Int) ≤ (k : Int) := by omega
      have hks : (k : Int) ≤ (s.size : Int) := by omega
      cases a : pre [34, 34, 34] (s.data.toList.drop k)
      · have HA := Lib.hid (hasP_at s ⟨#[34, 34, 34]⟩ k wr false a)
        cases b : pre [92, 34, 34, 34] (s.data.toList.drop k)
        · have HQ := Lib.hid (hasP_at s ⟨#[92, 34, 34, 34]⟩ k wr false b)
          have hT := Lib.hid (HT.out.step hk3 hlt a b)
          have HW := Lib.hid (writeByte w.heap.size w.heap.size (Lib.byteCells done) (s[k].toNat : Int) wr HBU.out (by rw [Lib.byteCells_length]; omega) hbs)
          clear HT HBU a b
          go_wp2_with fail
          refine HA.out.mono ?_
          rintro e w2 ⟨rfl, rfl⟩
          go_wp2_with fail
          refine HQ.out.mono ?_
          rintro e w2 ⟨rfl, rfl⟩
          go_wp2_with fail
          refine HW.out.mono ?_
          rintro e w2 ⟨rfl, hB2, hb2, _⟩
          have HB2 := Lib.hid hB2
          have HBb := Lib.hid hb2
          clear hB2 hb2
          go_wp2_with fail
          go_roundg (gk - 1)
          case measure => omega
          case rel => exact ⟨k + 1, done ++ [s[k]], by omega, by omega, by go_num, by simp; omega, HB.out.trans HBb.out, Aside.intro (.inr (by have := HB2.out; rwa [show Lib.byteCells done ++ [Value.int .u8 (s[k].toNat : Int)] = Lib.byteCells (done ++ [s[k]]) by simp [Lib.byteCells]] at this)), Aside.intro hT.out⟩
        · have HQ := Lib.hid (hasP_at s ⟨#[92, 34, 34, 34]⟩ k wr true b)
          have hT := Lib.hid (HT.out.four hk3 hlt a b)
          have hk4 : k + 4 ≤ s.size := by have := pre_len b; rw [List.length_drop, len_data] at this; simp at this; omega
          have HW := Lib.hid (writeString w.heap.size w.heap.size (Lib.byteCells done) ⟨#[34, 34, 34]⟩ wr HBU.out (by rw [Lib.byteCells_length]; show done.length + 3 ≤ _; omega) hbs)
          clear HT HBU a b
          go_wp2_with fail
          refine HA.out.mono ?_
          rintro e w2 ⟨rfl, rfl⟩
          go_wp2_with fail
          refine HQ.out.mono ?_
          rintro e w2 ⟨rfl, rfl⟩
          go_wp2_with fail
          refine HW.out.mono ?_
          rintro e w2 ⟨rfl, hB2, hb2, _⟩
          have HB2 := Lib.hid hB2
          have HBb := Lib.hid hb2
          clear hB2 hb2
          go_wp2_with fail
          go_roundg (gk - 4)
          case measure => omega
          case rel => exact ⟨k + 4, done ++ [34, 34, 34], by omega, by omega, by go_num, by simp; omega, HB.out.trans HBb.out, Aside.intro (.inr (by have := HB2.out; rwa [show Lib.byteCells done ++ Lib.strCells ⟨#[34, 34, 34]⟩ = Lib.byteCells (done ++ [34, 34, 34]) by rw [Lib.strCells_eq]; simp [Lib.byteCells]] at this)), Aside.intro hT.out⟩
      · have HA := Lib.hid (hasP_at s ⟨#[34, 34, 34]⟩ k wr true a)
        have hr : Hid (pairS (blockL s.data.toList) 3 = .tuple #[.string ⟨(Blk.valueL done).toArray⟩, .int .i64 (3 + (k - 3 + 3) : Nat)]) := Lib.hid (by rw [blockL, HT.out.fin hlt a]; rfl)
        have HC := Lib.hid (builderText w.heap.size w.heap.size done wr HBU.out hbs)
        clear HT HBU a
        go_wp2_with fail
        refine HA.out.mono ?_
        rintro e w2 ⟨rfl, rfl⟩
        go_wp2_with fail
        refine HC.out.mono ?_
        rintro e w2 ⟨rfl, _, hb2, _⟩
        have HV := Lib.hid (Blk.pvalue ⟨done.toArray⟩ w2 (by rw [size_mk]; omega))
        have HBb := Lib.hid hb2
        have hb2s := hb2.size
        clear hb2
        go_wp2_with fail
        refine HV.out.mono ?_
        rintro e w3 ⟨rfl, hb3⟩
        have HBc := Lib.hid hb3
        clear hb3
        go_wp2_with fail
        go_ret2
        exact ⟨by rw [hr.out]; exact ret_pairN rfl (by omega), HB.out.trans (HBb.out.trans (HBc.out.mono (by omega)))⟩
    · obtain rfl : k = s.size := by omega
      have hr : Hid (pairS (blockL s.data.toList) 3 = .tuple #[.string ⟨#[]⟩, .int .i64 0]) := Lib.hid (by rw [blockL, HT.out.stop (Nat.le_refl _)]; rfl)
      clear HT HBU
      go_wp2_with fail
      go_ret2
      exact ⟨by rw [hr.out]; rfl, HB.out⟩

def quoteS (l : List UInt8) : Value := match quoteL l with | some q => tokS 5 q.1 q.2 | none => tokS 5 [] 0
theorem quoteL_eq (l : List UInt8) : quoteL l = if pre [34, 34, 34] l then (blockL l).map fun q => (q.1, 3 + q.2) else if headB (fun b => b == 34) l then (lineL (l.drop 1)).map fun q => (q.1, 1 + q.2) else none := by
  cases l with
  | nil => rfl
  | cons b t =>
    simp only [quoteL, blockL, Option.map_map]
    rfl

abbrev tokV (k : Int) (x : ByteArray) : Obj := .cells #[.int .i64 k, .string x] 70

theorem tok_cells {w : World} {b : Nat} {k x : Value} (h : w.heap[b]? = some (.cells #[k, x] 70 (0, 0))) : w.cell? ⟨b, 0, none⟩ = some k ∧ w.cell? ⟨b, 1, none⟩ = some x ∧ w.frozen? ⟨b, 0, none⟩ = false ∧ w.frozen? ⟨b, 1, none⟩ = false := by
  simp [World.cell?, World.frozen?, h]
theorem tok_set {w : World} {b : Nat} {k x k' x' : Value} (h : w.heap[b]? = some (.cells #[k, x] 70 (0, 0))) : ((w.setCell ⟨b, 0, none⟩ k').setCell ⟨b, 1, none⟩ x').heap[b]? = some (.cells #[k', x'] 70 (0, 0)) := by
  simp [World.setCell, Array.getElem?_modify, h]

set_option maxRecDepth 100000 in
set_option maxHeartbeats 1000000 in
theorem quote_any (s : ByteArray) (w : World) (hs : s.size ≤ 9000) (h3 : Laid3 w) : Calls Tryz.prog 168 #[.string s] w fun e w' => e = .returned (quoteS s.data.toList) ∧ Below w.heap.size w w' := by
  have H3 := Lib.hid (h3.alloc (tokV 0 ⟨#[]⟩))
  have HE := Lib.hid (quoteL_eq s.data.toList)
  cases a : pre [34, 34, 34] s.data.toList
  · have HA := Lib.hid (hasP s ⟨#[34, 34, 34]⟩ (w.alloc (tokV 0 ⟨#[]⟩)) false a)
    cases b : headB (fun b => b == 34) s.data.toList
    · have HQ := Lib.hid (hasP s ⟨#[34]⟩ (w.alloc (tokV 0 ⟨#[]⟩)) false ((pre_one 34 _).trans b))
      have hr : Hid (quoteS s.data.toList = tokS 5 [] 0) := Lib.hid (by rw [quoteS, HE.out, a, b]; rfl)
      clear a b h3
      go_enter Tryz.func168, Tryz.ntmps168
      go_wp2_with fail
      refine HA.out.mono ?_
      rintro e w2 ⟨rfl, rfl⟩
      go_wp2_with fail
      refine HQ.out.mono ?_
      rintro e w2 ⟨rfl, rfl⟩
      go_wp2_with fail
      refine ret_tok rfl rfl rfl (heap_alloc_last _ _) ⟨?_, below_new⟩
      rw [hr.out]
      rfl
    · have HQ := Lib.hid (hasP s ⟨#[34]⟩ (w.alloc (tokV 0 ⟨#[]⟩)) true ((pre_one 34 _).trans b))
      have h1 : 1 ≤ s.size := by
        rcases Nat.eq_zero_or_pos s.size with h | h
        · rw [nil_of_size h] at b; cases b
        · exact h
      have hL := line_any s (w.alloc (tokV 0 ⟨#[]⟩)) hs h1 H3.out
      cases hl : lineL (s.data.toList.drop 1) with
      | none =>
        have hr : Hid (quoteS s.data.toList = tokS 5 [] 0) := Lib.hid (by rw [quoteS, HE.out, a, b, hl]; rfl)
        simp only [hl, pairS] at hL
        have HL := Lib.hid hL
        clear a b h3 hL hl
        go_enter Tryz.func168, Tryz.ntmps168
        go_wp2_with fail
        refine HA.out.mono ?_
        rintro e w2 ⟨rfl, rfl⟩
        go_wp2_with fail
        refine HQ.out.mono ?_
        rintro e w2 ⟨rfl, rfl⟩
        go_wp2_with fail
        refine HL.out.mono ?_
        rintro e w2 ⟨rfl, hb2⟩
        have hc0 : w2.heap[w.heap.size]? = some (tokV 0 ⟨#[]⟩) := (hb2.block w.heap.size (by simp)).trans (heap_alloc_last _ _)
        obtain ⟨c0, c1, f0, f1⟩ := tok_cells hc0
        have HC0 := Lib.hid hc0
        have HBb := Lib.hid hb2
        clear hc0 hb2
        go_wp2_with fail
        refine ret_tok rfl rfl rfl (tok_set HC0.out) ⟨?_, ((below_new.trans (HBb.out.mono (by simp))).setCell (Nat.le_refl _) _).setCell (Nat.le_refl _) _⟩
        rw [hr.out]
        rfl
      | some q =>
        obtain ⟨x, n⟩ := q
        obtain ⟨n1, hn1⟩ : ∃ n1, 1 + n = n1 := ⟨_, rfl⟩
        have hr : Hid (quoteS s.data.toList = tokS 5 x n1) := Lib.hid (by rw [quoteS, HE.out, a, b, hl, ← hn1]; rfl)
        simp only [hl, pairS] at hL
        rw [hn1] at hL
        have HL := Lib.hid hL
        have n0 : ((n1 : Int) == 0) = false := by simp; omega
        clear a b h3 hL hl
        go_enter Tryz.func168, Tryz.ntmps168
        go_wp2_with fail
        refine HA.out.mono ?_
        rintro e w2 ⟨rfl, rfl⟩
        go_wp2_with fail
        refine HQ.out.mono ?_
        rintro e w2 ⟨rfl, rfl⟩
        go_wp2_with fail
        refine HL.out.mono ?_
        rintro e w2 ⟨rfl, hb2⟩
        have hc0 : w2.heap[w.heap.size]? = some (tokV 0 ⟨#[]⟩) := (hb2.block w.heap.size (by simp)).trans (heap_alloc_last _ _)
        obtain ⟨c0, c1, f0, f1⟩ := tok_cells hc0
        have HC0 := Lib.hid hc0
        have HBb := Lib.hid hb2
        clear hc0 hb2
        go_wp2_with fail
        refine ret_tok rfl rfl rfl (tok_set HC0.out) ⟨?_, ((below_new.trans (HBb.out.mono (by simp))).setCell (Nat.le_refl _) _).setCell (Nat.le_refl _) _⟩
        rw [hr.out, tokS_yes (by omega)]
        rfl
  · have HA := Lib.hid (hasP s ⟨#[34, 34, 34]⟩ (w.alloc (tokV 0 ⟨#[]⟩)) true a)
    have h3s : 3 ≤ s.size := by have := pre_len a; rw [len_data] at this; exact this
    have hL := blockq_any s (w.alloc (tokV 0 ⟨#[]⟩)) hs h3s
    cases hl : blockL s.data.toList with
    | none =>
        have hr : Hid (quoteS s.data.toList = tokS 5 [] 0) := Lib.hid (by rw [quoteS, HE.out, a, hl]; rfl)
        simp only [hl, pairS] at hL
        have HL := Lib.hid hL
        clear a h3 hL hl
        go_enter Tryz.func168, Tryz.ntmps168
        go_wp2_with fail
        refine HA.out.mono ?_
        rintro e w2 ⟨rfl, rfl⟩
        go_wp2_with fail
        refine HL.out.mono ?_
        rintro e w2 ⟨rfl, hb2⟩
        have hc0 : w2.heap[w.heap.size]? = some (tokV 0 ⟨#[]⟩) := (hb2.block w.heap.size (by simp)).trans (heap_alloc_last _ _)
        obtain ⟨c0, c1, f0, f1⟩ := tok_cells hc0
        have HC0 := Lib.hid hc0
        have HBb := Lib.hid hb2
        clear hc0 hb2
        go_wp2_with fail
        refine ret_tok rfl rfl rfl (tok_set HC0.out) ⟨?_, ((below_new.trans (HBb.out.mono (by simp))).setCell (Nat.le_refl _) _).setCell (Nat.le_refl _) _⟩
        rw [hr.out]
        rfl
    | some q =>
        obtain ⟨x, n⟩ := q
        obtain ⟨n1, hn1⟩ : ∃ n1, 3 + n = n1 := ⟨_, rfl⟩
        have hr : Hid (quoteS s.data.toList = tokS 5 x n1) := Lib.hid (by rw [quoteS, HE.out, a, hl, ← hn1]; rfl)
        simp only [hl, pairS] at hL
        rw [hn1] at hL
        have HL := Lib.hid hL
        have n0 : ((n1 : Int) == 0) = false := by simp; omega
        clear a h3 hL hl
        go_enter Tryz.func168, Tryz.ntmps168
        go_wp2_with fail
        refine HA.out.mono ?_
        rintro e w2 ⟨rfl, rfl⟩
        go_wp2_with fail
        refine HL.out.mono ?_
        rintro e w2 ⟨rfl, hb2⟩
        have hc0 : w2.heap[w.heap.size]? = some (tokV 0 ⟨#[]⟩) := (hb2.block w.heap.size (by simp)).trans (heap_alloc_last _ _)
        obtain ⟨c0, c1, f0, f1⟩ := tok_cells hc0
        have HC0 := Lib.hid hc0
        have HBb := Lib.hid hb2
        clear hc0 hb2
        go_wp2_with fail
        refine ret_tok rfl rfl rfl (tok_set HC0.out) ⟨?_, ((below_new.trans (HBb.out.mono (by simp))).setCell (Nat.le_refl _) _).setCell (Nat.le_refl _) _⟩
        rw [hr.out, tokS_yes (by omega)]
        rfl
end Go.Proofs.YtpkmbhnikilihaaGreatDoor
