/- The walk of the landed Value. -/
import Derived.Test.YtpkmbhnikilihaaGreatDoorQp7
namespace Go.Proofs.YtpkmbhnikilihaaGreatDoor.Blk
open Go.RowKit
theorem cutB_zero (k : Nat) (xs : List ByteArray) : cutB 0 k xs = xs := by
 apply List.ext_getElem?
 intro j
 rw [cutB_get]
 cases xs[j]? with
 | none => rfl
 | some x =>
   simp only [Option.map_some]
   split
   · congr 1; unfold cutS; rw [Nat.zero_min]; exact ByteArray.extract_zero_size
   · rfl
theorem drop_take_get {ys : List ByteArray} {f n j : Nat} {x : ByteArray} (h : ((ys.drop f).take n)[j]? = some x) : ys[f + j]? = some x := by
 rw [List.getElem?_take] at h
 split at h
 · rw [List.getElem?_drop] at h; exact h
 · cases h
theorem join_ten : ∀ ls : List (List UInt8), Lib.join ls [10] = joinTen ls := by
 intro ls
 induction ls with
 | nil => rfl
 | cons x t ih =>
   cases t with
   | nil => exact Lib.join_one x [10]
   | cons y t =>
     rw [Lib.join_cons]
     show _ = x ++ 10 :: joinTen (y :: t)
     rw [← ih, Lib.join_cons]
     simp [Lib.joinTail]
set_option maxRecDepth 100000 in
set_option maxHeartbeats 1000000 in
theorem pvalue_any (s : ByteArray) (w : World) (hs : s.size ≤ 13000) :
  Calls Tryz.prog 261 #[.string s] w fun e w' => e = .returned (.string ⟨(valueL s.data.toList).toArray⟩) ∧ Below w.heap.size w w' := by
 have HR := Hd (plines_any s w hs)
 go_enter Tryz.func261, Tryz.ntmps261
 go_wp2_with fail
 refine HR.out.mono ?_
 rintro e w1 ⟨A, cap, rfl, hown, hb⟩
 have hroom := lines_room (s.data.toList.length + 1) s.data.toList (by omega)
 rw [← Lib.size_eq] at hroom
 have hxs : ∀ x ∈ linesB s.data.toList, x.size ≤ 13000 := by
  intro x hx
  obtain ⟨l, hl, rfl⟩ := List.mem_map.1 hx
  have := hroom.2.1 l hl
  show l.length ≤ _
  omega
 have hN : (linesB s.data.toList).length ≤ 13001 := by unfold linesB; rw [List.length_map]; omega
 have hN1 : 1 ≤ (linesB s.data.toList).length := by
  unfold linesB
  rw [List.length_map]
  have := linesL_ne s.data.toList
  cases h : linesL s.data.toList with
  | nil => exact absurd h this
  | cons _ _ => simp
 clear hroom
 obtain ⟨g0, rfl, hbg, hgl, hcap⟩ := strs_some hown (by omega)
 have HI := Hd (pindent_any (some ⟨g0, 0, none⟩) (linesB s.data.toList).length cap (linesB s.data.toList) w1 (by omega) (strs_of_own hown).2 (fun x hx => by have := hxs x hx; omega))
 have hib := indTo_bd _ (fun x hx => by have := hxs x hx; omega) (linesB s.data.toList).length
 rw [indTo_all (Nat.le_refl _)] at hib
 have HVAL : Hid (valueL s.data.toList = joinTen (trimL (cutL (max (indentL (bytesL (linesB s.data.toList))) 0).toNat (bytesL (linesB s.data.toList))))) := Hd (by rw [linesB_bytes]; rfl)
 generalize linesB s.data.toList = xs at *
 generalize hv : indentL (bytesL xs) = v at *
 have hib1 := hib.1
 have hib2 := hib.2
 have HEX := Hd hxs
 have HB := Hd hb
 clear hxs hv hib hb HR
 go_upto_if 13 with (fail)
 refine HI.out.mono ?_
 rintro e w2 ⟨rfl, rfl⟩
 obtain ⟨tst, hd⟩ : ∃ t : Bool, decide (0 < v) = t := ⟨_, rfl⟩
 go_upto_if 13 with (fail)
 have HD := Hd hd
 clear hd
 obtain ⟨M, hM⟩ : ∃ M, (max v 0).toNat = M := ⟨_, rfl⟩
 have hm1 : M ≤ 100000 := by omega
 rw [hM] at HVAL
 have HM := Hd hM
 clear hM
 go_cut [3] (fun l wx => l = .slice (some ⟨g0, 0, none⟩) xs.length cap ∧ wx.ownsRow w.heap.size 9 1 (.slice (some ⟨g0, 0, none⟩) xs.length cap) xs.length ((cutB M xs.length xs).map Value.string) ∧ Below w.heap.size w wx)
 case first =>
  cases tst
  · obtain rfl : M = 0 := by have h1 := HM.out; have h2 := of_decide_eq_false HD.out; omega
    go_wp2_with fail
    go_meet
    exact ⟨rfl, by rw [cutB_zero]; exact hown, HB.out⟩
  · have hv0 := of_decide_eq_true HD.out
    obtain ⟨m, rfl⟩ : ∃ m : Nat, v = m := ⟨v.toNat, by omega⟩
    obtain rfl : m = M := by have := HM.out; omega
    clear HI hib1 hib2 HM HD
    go_wp2_with fail
    go_loopg [5] (xs.length - 1) (fun g i wx => ∃ k : Nat, 1 ≤ k ∧ k + g = xs.length ∧ i = .int .i64 k ∧ wx.ownsRow w.heap.size 9 1 (.slice (some ⟨g0, 0, none⟩) xs.length cap) xs.length ((cutB m k xs).map Value.string) ∧ Below w.heap.size w wx)
    case atStart => exact ⟨1, by omega, by omega, rfl, by rw [cutB_start]; exact hown, HB.out⟩
    case round =>
      obtain ⟨k, hk1, hk, rfl, hown, hb⟩ := hrel
      cases gk with
      | succ g =>
        have hlt : k < xs.length := by omega
        have hlt' : (k : Int) < (xs.length : Int) := by omega
        have hk0 : (0 : Int) ≤ (k : Int) := by omega
        obtain ⟨x, hx⟩ : ∃ x, xs[k]? = some x := ⟨_, List.getElem?_eq_getElem hlt⟩
        have hget : (cutB m k xs)[k]? = some x := by
          rw [cutB_get, hx]
          simp only [Option.map_some]
          rw [if_neg (by omega)]
        have c1 : wr.cell? ⟨g0, k, none⟩ = some (.string x) := by
          rw [World.ownsRow.cellAt hown k (by omega), List.getElem?_map, hget]; rfl
        have f1 : wr.frozen? ⟨g0, k, none⟩ = false := World.ownsRow.frozenAt hown k
        have hxs : x.size ≤ 13000 := HEX.out x (List.mem_of_getElem? hx)
        have HO := Hd (World.ownsRow.stored hown k (.string (cutS m x)))
        have HS := Hd (cutB_set (m := m) hk1 hx)
        have HB2 := Hd hb
        have hcx : Hid (cutS m x = x.extract (min m x.size) x.size) := Hd rfl
        clear hown hb hx hget HB
        obtain ⟨K, hKd⟩ : ∃ K, min m x.size = K := ⟨_, rfl⟩
        have hK : min (m : Int) (x.size : Int) = (K : Int) := by omega
        have hKs : (K : Int) ≤ (x.size : Int) := by omega
        have hK0 : (0 : Int) ≤ (K : Int) := by omega
        have HKd := Hd hKd
        clear hKd
        go_wp2_with fail
        go_still_tail 15, (by kernel_rfl)
        change wpList _ _ _ _ _ wr.drew
        go_wp2
        go_roundg g
        case measure => omega
        case rel =>
          refine ⟨k + 1, by omega, by omega, by go_num, ?_, (HB2.out.drew).setCell hbg _⟩
          have e : ((cutB m k xs).map Value.string).set k (.string (cutS m x)) = (cutB m (k + 1) xs).map Value.string := by rw [← HS.out, List.map_set]
          rw [← e, hcx.out, HKd.out]
          rw [hcx.out, HKd.out] at HO
          exact HO.out.1.drew
      | zero =>
        obtain rfl : k = xs.length := by omega
        go_wp2_with fail
        go_meet
        exact ⟨rfl, hown, hb⟩
 case rest =>
  obtain ⟨rfl, hown, hb⟩ := hcut
  clear HI hib1 hib2 HM HD
  have hyl : (cutB M xs.length xs).length = xs.length := cutB_length _ _ _
  have hyb := cutB_bytes M xs
  have hys : ∀ y ∈ cutB M xs.length xs, y.size ≤ 13000 := by
    intro y hy
    obtain ⟨j, hj⟩ := List.mem_iff_getElem?.1 hy
    rw [cutB_get] at hj
    obtain ⟨x, hx, rfl⟩ := Option.map_eq_some_iff.1 hj
    have := HEX.out x (List.mem_of_getElem? hx)
    split
    · unfold cutS; rw [ByteArray.size_extract]; omega
    · exact this
  have hval : Hid (valueL s.data.toList = joinTen (trimL (bytesL (cutB M xs.length xs)))) := Hd (by rw [HVAL.out, hyb])
  generalize cutB M xs.length xs = ys at *
  have hgc : g0 < wc.heap.size := (hown.lt g0 rfl).2
  have HS := Hd (strs_of_own' hown)
  have HYS := Hd hys
  have HYL := Hd hyl
  have HBB := Hd hb
  clear hown hyb hys hyl hb HVAL HB
  generalize xs.length = N at *
  clear HEX
  go_upto_block 2 with (fail)
  go_cut [6] (fun fr wx => ∃ f : Nat, f ≤ N ∧ fr = .int .i64 f ∧ Aside (frontL (bytesL ys) = (bytesL ys).drop f) ∧ wc = wx)
  case first =>
    go_wp2_with fail
    go_loopg [6] N (fun g fr wx => ∃ f : Nat, f + g = N ∧ fr = .int .i64 f ∧ Aside (((bytesL ys).take f).all (fun l => !inkB l) = true) ∧ wc = wx)
    case atStart => exact ⟨0, by omega, rfl, Aside.intro (by simp), rfl⟩
    case round =>
      obtain ⟨f, hf, rfl, H, rfl⟩ := hrel
      cases gk with
      | zero =>
        obtain rfl : f = N := by omega
        have hT := Hd (front_end H.out (by unfold bytesL; rw [List.length_map, HYL.out]; omega))
        clear H
        go_wp2_with fail
        go_meet
        exact ⟨_, by omega, rfl, Aside.intro (by rw [hT.out, List.drop_eq_nil_of_le (by unfold bytesL; rw [List.length_map, HYL.out]; omega)]), rfl⟩
      | succ g =>
        have hlt : f < N := by omega
        have hlt' : (f : Int) < (N : Int) := by omega
        obtain ⟨y, hy⟩ : ∃ y, ys[f]? = some y := ⟨_, List.getElem?_eq_getElem (by rw [HYL.out]; omega)⟩
        obtain ⟨b, o, e, _, hcell⟩ := HS.out.2 f y hy
        injection e with e
        injection e with e1 e2
        subst e1 e2
        rw [Nat.zero_add] at hcell
        have HBk := Hd (pbare_any y wc (by have := HYS.out y (List.mem_of_getElem? hy); omega))
        have hyb : (bytesL ys)[f]? = some y.data.toList := by unfold bytesL; rw [List.getElem?_map, hy]; rfl
        cases hi : inkB y.data.toList
        · have hT := Hd (blank_next H.out hyb hi)
          have HIk := Hd hi
          clear H hy hyb hi
          go_wp2_with fail
          refine HBk.out.mono ?_
          rintro e w2 ⟨rfl, rfl⟩
          rw [HIk.out]
          go_wp2_with fail
          go_roundg g
          case measure => omega
          case rel => exact ⟨f + 1, by omega, by go_num, Aside.intro hT.out, rfl⟩
        · have hT := Hd (front_stop H.out hyb hi)
          have HIk := Hd hi
          clear H hy hyb hi
          go_wp2_with fail
          refine HBk.out.mono ?_
          rintro e w2 ⟨rfl, rfl⟩
          rw [HIk.out]
          go_wp2_with fail
          go_meet
          exact ⟨f, by omega, rfl, Aside.intro hT.out, rfl⟩
  case rest =>
    obtain ⟨f, hfN, rfl, HF, rfl⟩ := hcut
    go_upto_block 4 with (fail)
    go_cut [7] (fun tv wx => ∃ t : Nat, f ≤ t ∧ t ≤ N ∧ tv = .int .i64 t ∧ Aside (trimL (bytesL ys) = ((bytesL ys).drop f).take (t - f)) ∧ wc = wx)
    case first =>
      go_wp2_with fail
      go_loopg [7] (N - f) (fun g tv wx => ∃ t : Nat, f ≤ t ∧ t ≤ f + g ∧ t ≤ N ∧ tv = .int .i64 t ∧ Aside (((bytesL ys).drop t).all (fun l => !inkB l) = true) ∧ wc = wx)
      case atStart => exact ⟨N, by omega, by omega, by omega, rfl, Aside.intro (by rw [List.drop_eq_nil_of_le (by unfold bytesL; rw [List.length_map, HYL.out]; omega)]; rfl), rfl⟩
      case round =>
        obtain ⟨t, hft, htg, htN, rfl, H, rfl⟩ := hrel
        by_cases hte : t = f
        · subst hte
          have hT := Hd (back_end HF.out H.out)
          clear H
          go_wp2_with fail
          go_meet
          exact ⟨t, by omega, by omega, rfl, Aside.intro hT.out, rfl⟩
        · have hft1 : f < t := by omega
          obtain ⟨g, rfl⟩ : ∃ g, gk = g + 1 := ⟨gk - 1, by omega⟩
          obtain ⟨u, rfl⟩ : ∃ u, t = u + 1 := ⟨t - 1, by omega⟩
          have hfu : (f : Int) < (u : Int) + 1 := by omega
          have hu0 : (0 : Int) ≤ (u : Int) := by omega
          have hu1 : (u : Int) < (N : Int) := by omega
          obtain ⟨y, hy⟩ : ∃ y, ys[u]? = some y := ⟨_, List.getElem?_eq_getElem (by rw [HYL.out]; omega)⟩
          obtain ⟨b, o, e, _, hcell⟩ := HS.out.2 u y hy
          injection e with e
          injection e with e1 e2
          subst e1 e2
          rw [Nat.zero_add] at hcell
          have HBk := Hd (pbare_any y wc (by have := HYS.out y (List.mem_of_getElem? hy); omega))
          have hyb : (bytesL ys)[u]? = some y.data.toList := by unfold bytesL; rw [List.getElem?_map, hy]; rfl
          cases hi : inkB y.data.toList
          · have hT := Hd (blank_back H.out hyb hi)
            have HIk := Hd hi
            clear H hy hyb hi hte
            go_wp2_with fail
            refine HBk.out.mono ?_
            rintro e w2 ⟨rfl, rfl⟩
            rw [HIk.out]
            go_wp2_with fail
            go_roundg g
            case measure => omega
            case rel => exact ⟨u, by omega, by omega, by omega, by go_num, Aside.intro hT.out, rfl⟩
          · have hT := Hd (back_stop HF.out (by omega) H.out hyb hi)
            have HIk := Hd hi
            clear H hy hyb hi hte
            go_wp2_with fail
            refine HBk.out.mono ?_
            rintro e w2 ⟨rfl, rfl⟩
            rw [HIk.out]
            go_wp2_with fail
            go_meet
            exact ⟨u + 1, by omega, by omega, by go_num, Aside.intro hT.out, rfl⟩
    case rest =>
      obtain ⟨t, hft, htN, rfl, HT, rfl⟩ := hcut
      have hf0 : (0 : Int) ≤ (f : Int) := by omega
      have hft' : (f : Int) ≤ (t : Int) := by omega
      have hzl : Hid (((ys.drop f).take (t - f)).length = t - f) := Hd (by rw [List.length_take, List.length_drop, HYL.out]; omega)
      have hzb : Hid (Lib.join (((ys.drop f).take (t - f)).map (·.data.toList)) (⟨#[10]⟩ : ByteArray).data.toList = valueL s.data.toList) := Hd (by
        show Lib.join _ [10] = _
        rw [join_ten, hval.out, HT.out]; unfold bytesL; rw [List.map_take, List.map_drop])
      have hvl : (valueL s.data.toList).length ≤ 13000 := by have := value_len s.data.toList; rw [← Lib.size_eq] at this; omega
      by_cases hcf : cap = f
      · obtain rfl : t = f := by omega
        have hnil : Hid ((⟨(valueL s.data.toList).toArray⟩ : ByteArray) = ⟨#[]⟩) := Hd (by rw [hval.out, HT.out]; simp [joinTen])
        have HC := Hd hcf
        subst hcf
        have HJ := Hd (fun a c => pjoin_none a c ⟨#[10]⟩ wc)
        have ht0 : cap - cap = 0 := by omega
        go_wp2_with fail
        refine (HJ.out _ _).mono ?_
        rintro e w3 ⟨rfl, rfl⟩
        go_wp2_with fail
        go_ret
        exact ⟨ret_str hnil.out.symm, HBB.out⟩
      · have HJ := Hd (pjoin_many g0 f (cap - f) ((ys.drop f).take (t - f)) ⟨#[10]⟩ wc (fun j x hj => by
          obtain ⟨b, o, e, _, hc⟩ := HS.out.2 (f + j) x (drop_take_get hj)
          injection e with e
          injection e with e1 e2
          subst e1 e2
          rw [Nat.zero_add] at hc
          exact hc) hgc (by rw [hzl.out]; omega) (by rw [hzl.out]; omega) (by rw [hzb.out]; omega))
        rw [hzl.out, hzb.out] at HJ
        go_wp2_with fail
        refine HJ.out.mono ?_
        rintro e w3 ⟨rfl, hb3⟩
        have HB3 := Hd hb3
        clear hb3
        obtain ⟨V, hV⟩ : ∃ V : ByteArray, (⟨(valueL s.data.toList).toArray⟩ : ByteArray) = V := ⟨_, rfl⟩
        have HV := Hd hV
        rw [hV]
        clear hV
        go_wp2_with fail
        go_ret
        exact ⟨ret_str HV.out.symm, HBB.out.trans (HB3.out.mono HBB.out.size)⟩
theorem pvalue (s : ByteArray) (w : World) (hs : s.size ≤ 13000) : Calls Tryz.prog 261 #[.string s] w fun e w' => e = .returned (.string ⟨(valueL s.data.toList).toArray⟩) ∧ Below w.heap.size w w' := pvalue_any s w hs
end Go.Proofs.YtpkmbhnikilihaaGreatDoor.Blk
namespace Go.Proofs.YtpkmbhnikilihaaGreatDoor
open Go.RowKit
theorem builder_below {T e : TypeId} {B b : Nat} {bs : List Value} {w w' : World} (h : Lib.IsBuilderF T e B b bs w) (hb : Below w.heap.size w w') : Lib.IsBuilderF T e B b bs w' := by
 have one : ∀ p, Lib.BuilderAtF T e B b p bs w → Lib.BuilderAtF T e B b p bs w' := fun p hp => by
  have hlt := hp.lt
  obtain ⟨hB, v, hc, hown, hne⟩ := hp
  exact ⟨hB, v, (hb.block b hlt).trans hc, hown.kept (row := none) ⟨hb.os, hb.tape, hb.output, hb.size, fun j hj _ => hb.block j hj⟩ (Classical.em _), hne⟩
 exact h.elim (fun x => .inl (one _ x)) (fun x => .inr (one _ x))
theorem unitsOf_ge : ∀ cs : List Int, cs.length ≤ (unitsOf cs).length := by
 intro cs
 induction cs with
 | nil => simp
 | cons c cs ih =>
   show _ ≤ (unitOf c ++ unitsOf cs).length
   rw [List.length_append, List.length_cons]
   have : 1 ≤ (unitOf c).length := by unfold unitOf; split <;> simp
   omega
theorem bytesOf_len : ∀ cs : List Int, (bytesOf cs).length ≤ 4 * cs.length := by
 intro cs
 induction cs with
 | nil => simp [bytesOf]
 | cons c cs ih =>
   show (Lib.encodeRune c ++ bytesOf cs).length ≤ _
   have := encode_len c
   rw [List.length_append, List.length_cons]
   omega
theorem joinL_len {us : List Int} {x : List UInt8} (h : joinL us = some x) : x.length ≤ 4 * us.length := by
 obtain ⟨cs, hc, rfl⟩ := Option.map_eq_some_iff.1 h
 have h1 := (units_of_pairUp us.length us cs (Nat.le_refl _) hc).1
 have h2 := unitsOf_ge cs
 have h3 := bytesOf_len cs
 rw [h1] at h2
 omega
theorem escL_size {l : List UInt8} {p : List UInt8 × Nat} (h : escL l = some p) : p.1.length ≤ p.2 := by
 unfold escL at h
 split at h
 · split at h
   · obtain ⟨x, _, rfl⟩ := Option.map_eq_some_iff.1 h
     simp
   · cases h
 · obtain ⟨x, hx, rfl⟩ := Option.map_eq_some_iff.1 h
   have := joinL_len hx
   simp only
   omega
theorem ret_pairN {x y : ByteArray} {n m : Int} (hx : x = y) (h : n = m) : Ending.returned (.tuple #[.string x, .int .i64 n]) = .returned (.tuple #[.string y, .int .i64 m]) := by rw [hx, h]
def pairS (o : Option (List UInt8 × Nat)) (m : Nat) : Value := match o with | some q => .tuple #[.string ⟨q.1.toArray⟩, .int .i64 (m + q.2 : Nat)] | none => .tuple #[.string ⟨#[]⟩, .int .i64 0]
def lineTo (l : List UInt8) (k : Nat) (done : List UInt8) : Prop := lineL (l.drop 1) = (lineL (l.drop k)).map fun q => (done ++ q.1, (k - 1) + q.2)
theorem lineTo.stop {s : ByteArray} {k : Nat} {done : List UInt8} (h : lineTo s.data.toList k done) (hk : s.size ≤ k) : lineL (s.data.toList.drop 1) = none := by
 rw [h, drop_all s k hk]; rfl
theorem lineTo.step {s : ByteArray} {k : Nat} {done : List UInt8} (h : lineTo s.data.toList k done) (h1 : 1 ≤ k) (hk : k < s.size) (a : (s[k] == 34) = false) (b : (s[k] == 10) = false) (c : (s[k] == 13) = false) (d : (s[k] == 92) = false) : lineTo s.data.toList (k + 1) (done ++ [s[k]]) := by
 unfold lineTo at *
 rw [h, drop_at s k hk, lineL_cons, a, b, c, d]
 simp only [Bool.or_self, Bool.false_eq_true, if_false, Option.map_map]
 congr 1
 funext q
 simp only [Function.comp, Prod.mk.injEq, List.append_assoc, List.singleton_append, true_and]
 omega
theorem lineTo.esc {s : ByteArray} {k : Nat} {done : List UInt8} {p : List UInt8 × Nat} (h : lineTo s.data.toList k done) (h1 : 1 ≤ k) (hk : k < s.size) (d : (s[k] == 92) = true) (he : escL (s.data.toList.drop k) = some p) : lineTo s.data.toList (k + p.2) (done ++ p.1) := by
 unfold lineTo at *
 have d' : s[k] = 92 := by simpa using d
 have hc : s.data.toList.drop k = 92 :: s.data.toList.drop (k + 1) := by rw [drop_at s k hk, d']
 rw [hc] at he h
 rw [h, lineL_cons, he, ← hc]
 simp only [show ((92 : UInt8) == 34) = false from rfl, show ((92 : UInt8) == 10 || (92 : UInt8) == 13) = false from rfl, show ((92 : UInt8) == 92) = true from rfl, Bool.false_eq_true, if_false, if_true, Option.map_map, List.drop_drop]
 congr 1
 funext q
 simp only [Function.comp, Prod.mk.injEq, List.append_assoc, true_and]
 omega
theorem lineTo.bad {s : ByteArray} {k : Nat} {done : List UInt8} (h : lineTo s.data.toList k done) (hk : k < s.size) (d : (s[k] == 92) = true) (he : escL (s.data.toList.drop k) = none) : lineL (s.data.toList.drop 1) = none := by
 unfold lineTo at *
 have d' : s[k] = 92 := by simpa using d
 have hc : s.data.toList.drop k = 92 :: s.data.toList.drop (k + 1) := by rw [drop_at s k hk, d']
 rw [hc] at he h
 rw [h, lineL_cons, he]
 rfl
theorem lineTo.eol {s : ByteArray} {k : Nat} {done : List UInt8} (h : lineTo s.data.toList k done) (hk : k < s.size) (a : (s[k] == 34) = false) (b : (s[k] == 10 || s[k] == 13) = true) : lineL (s.data.toList.drop 1) = none := by
 unfold lineTo at *
 rw [h, drop_at s k hk, lineL_cons, a, b]
 rfl
theorem lineTo.fin {s : ByteArray} {k : Nat} {done : List UInt8} (h : lineTo s.data.toList k done) (h1 : 1 ≤ k) (hk : k < s.size) (a : (s[k] == 34) = true) : lineL (s.data.toList.drop 1) = some (done, k) := by
 unfold lineTo at *
 rw [h, drop_at s k hk, lineL_cons, a]
 simp
 omega
set_option maxRecDepth 100000 in
set_option maxHeartbeats 1000000 in
theorem line_any (s : ByteArray) (w : World) (hs : s.size ≤ 9000) (hs1 : 1 ≤ s.size) (h3 : Laid3 w) : Calls Tryz.prog 230 #[.string s] w fun e w' => e = .returned (pairS (lineL (s.data.toList.drop 1)) 1) ∧ Below w.heap.size w w' := by
 have H3 := Hd h3
 clear h3
 go_enter Tryz.func230, Tryz.ntmps230
 go_wp2
 go_loopg [5] (s.size - 1) (fun g i wx => ∃ (k : Nat) (done : List UInt8), k + g = s.size ∧ 1 ≤ k ∧ i = .int .i64 k ∧ done.length ≤ k ∧ Below w.heap.size w wx ∧ Aside (Lib.IsBuilderF 102 5 w.heap.size w.heap.size (Lib.byteCells done) wx) ∧ Aside (lineTo s.data.toList k done))
 case atStart => exact ⟨1, [], by omega, by omega, rfl, by simp, (Below.refl _ _).alloc (Nat.le_refl _) _, Aside.intro (Lib.IsBuilderF.of (Lib.fresh_isBuilder _ _ _)), Aside.intro (by unfold lineTo; cases lineL (s.data.toList.drop 1) <;> simp)⟩
 case round =>
  obtain ⟨k, done, hk, hk1, rfl, hdl, hb, HBU, HT⟩ := hrel
  have hbs := hb.size
  have H3r := Hd (H3.out.below hb)
  have HB := Hd hb
  clear hb
  by_cases hlt : k < s.size
  · have hlt' : (k : Int) < (s.size : Int) := by omega
    cases c34 : (s[k] == 34)
    · obtain ⟨a1, a2⟩ := beqF c34 34 rfl
      cases c10 : (s[k] == 10)
      · obtain ⟨b1, b2⟩ := beqF c10 10 rfl
        cases c13 : (s[k] == 13)
        · obtain ⟨d1, d2⟩ := beqF c13 13 rfl
          cases c92 : (s[k] == 92)
          · obtain ⟨e1, e2⟩ := beqF c92 92 rfl
            have hT := Hd (HT.out.step hk1 hlt c34 c10 c13 c92)
            have HW := Hd (writeByte w.heap.size w.heap.size (Lib.byteCells done) (s[k].toNat : Int) wr HBU.out (by rw [Lib.byteCells_length]; omega) hbs)
            clear HT HBU c34 c10 c13 c92
            go_wp2_with fail
            refine HW.out.mono ?_
            rintro e w2 ⟨rfl, hB2, hb2, _⟩
            have HB2 := Hd hB2
            have HBb := Hd hb2
            clear hB2 hb2
            go_wp2_with fail
            go_roundg (gk - 1)
            case measure => omega
            case rel => exact ⟨k + 1, done ++ [s[k]], by omega, by omega, by go_num, by simp; omega, HB.out.trans HBb.out, Aside.intro (.inr (by have := HB2.out; rwa [show Lib.byteCells done ++ [Value.int .u8 (s[k].toNat : Int)] = Lib.byteCells (done ++ [s[k]]) by simp [Lib.byteCells]] at this)), Aside.intro hT.out⟩
          · obtain ⟨e1, e2⟩ := beqT c92 92 rfl
            have hE := escaped_any (s.extract k s.size) wr (by rw [ext_size]; omega) H3r.out
            rw [ext_data] at hE
            unfold escS at hE
            cases he : escL (s.data.toList.drop k) with
            | none =>
              rw [he] at hE
              have HE := Hd hE
              have hr : Hid (pairS (lineL (s.data.toList.drop 1)) 1 = .tuple #[.string ⟨#[]⟩, .int .i64 0]) := Hd (by rw [HT.out.bad hlt c92 he]; rfl)
              clear HT HBU c34 c10 c13 c92 hE he
              go_wp2_with fail
              refine HE.out.mono ?_
              rintro e w2 ⟨rfl, hb2⟩
              have HBb := Hd hb2
              clear hb2
              go_wp2_with fail
              go_ret2
              exact ⟨by rw [hr.out]; rfl, HB.out.trans (HBb.out.mono hbs)⟩
            | some p =>
              obtain ⟨x, n⟩ := p
              have hT := Hd (HT.out.esc hk1 hlt c92 he)
              have hpl := escL_size he
              have hp2 := escL_le he
              rw [List.length_drop, len_data] at hp2
              simp only at hpl hp2
              rw [he] at hE
              have HE := Hd hE
              have n0 : ((n : Int) == 0) = false := by simp; omega
              clear HT c34 c10 c13 c92 hE he
              go_wp2_with fail
              refine HE.out.mono ?_
              rintro e w2 ⟨rfl, hb2⟩
              have HW := Hd (writeString w.heap.size w.heap.size (Lib.byteCells done) ⟨x.toArray⟩ w2 (builder_below HBU.out hb2) (by rw [Lib.byteCells_length, size_mk]; omega) (by have := hb2.size; omega))
              have HBb := Hd hb2
              have hb2s := hb2.size
              clear hb2 HBU
              go_wp2_with fail
              refine HW.out.mono ?_
              rintro e w3 ⟨rfl, hB3, hb3, _⟩
              have HB3 := Hd hB3
              have HBc := Hd hb3
              clear hB3 hb3
              go_wp2_with fail
              go_roundg (gk - n)
              case measure => omega
              case rel => exact ⟨k + n, done ++ x, by omega, by omega, by go_num, by simp; omega, HB.out.trans ((HBb.out.mono hbs).trans HBc.out), Aside.intro (.inr (by have := HB3.out; rwa [show Lib.byteCells done ++ Lib.strCells ⟨x.toArray⟩ = Lib.byteCells (done ++ x) by rw [Lib.strCells_eq]; simp [Lib.byteCells]] at this)), Aside.intro hT.out⟩
        · obtain ⟨d1, d2⟩ := beqT c13 13 rfl
          have hr : Hid (pairS (lineL (s.data.toList.drop 1)) 1 = .tuple #[.string ⟨#[]⟩, .int .i64 0]) := Hd (by rw [HT.out.eol hlt c34 (by rw [c13, Bool.or_true])]; rfl)
          clear HT HBU c34 c10 c13
          go_wp2_with fail
          go_ret2
          exact ⟨by rw [hr.out]; rfl, HB.out⟩
      · obtain ⟨b1, b2⟩ := beqT c10 10 rfl
        have hr : Hid (pairS (lineL (s.data.toList.drop 1)) 1 = .tuple #[.string ⟨#[]⟩, .int .i64 0]) := Hd (by rw [HT.out.eol hlt c34 (by rw [c10, Bool.true_or])]; rfl)
        clear HT HBU c34 c10
        go_wp2_with fail
        go_ret2
        exact ⟨by rw [hr.out]; rfl, HB.out⟩
    · obtain ⟨a1, a2⟩ := beqT c34 34 rfl
      have hr : Hid (pairS (lineL (s.data.toList.drop 1)) 1 = .tuple #[.string ⟨done.toArray⟩, .int .i64 (1 + k : Nat)]) := Hd (by rw [HT.out.fin hk1 hlt c34]; rfl)
      have HC := Hd (builderText w.heap.size w.heap.size done wr HBU.out hbs)
      clear HT HBU c34
      go_wp2_with fail
      refine HC.out.mono ?_
      rintro e w2 ⟨rfl, _, hb2, _⟩
      have HBb := Hd hb2
      clear hb2
      go_wp2_with fail
      go_ret2
      exact ⟨by rw [hr.out]; exact ret_pairN rfl (by omega), HB.out.trans HBb.out⟩
  · obtain rfl : k = s.size := by omega
    have hr : Hid (pairS (lineL (s.data.toList.drop 1)) 1 = .tuple #[.string ⟨#[]⟩, .int .i64 0]) := Hd (by rw [HT.out.stop (Nat.le_refl _)]; rfl)
    clear HT HBU
    go_wp2_with fail
    go_ret2
    exact ⟨by rw [hr.out]; rfl, HB.out⟩
def rawTo (l : List UInt8) (k : Nat) (done : List UInt8) : Prop := rawL (l.drop 3) = (rawL (l.drop k)).map fun q => (done ++ q.1, (k - 3) + q.2)
theorem rawTo.stop {s : ByteArray} {k : Nat} {done : List UInt8} (h : rawTo s.data.toList k done) (hk : s.size ≤ k) : rawL (s.data.toList.drop 3) = none := by
 rw [h, drop_all s k hk]; rfl
theorem rawTo.step {s : ByteArray} {k : Nat} {done : List UInt8} (h : rawTo s.data.toList k done) (h3 : 3 ≤ k) (hk : k < s.size) (a : pre [34, 34, 34] (s.data.toList.drop k) = false) (b : pre [92, 34, 34, 34] (s.data.toList.drop k) = false) : rawTo s.data.toList (k + 1) (done ++ [s[k]]) := by
 unfold rawTo at *
 rw [drop_at s k hk] at a b
 rw [h, drop_at s k hk, rawL_cons, a, b]
 simp only [Bool.false_eq_true, if_false, Option.map_map]
 congr 1
 funext q
 simp only [Function.comp, Prod.mk.injEq, List.append_assoc, List.singleton_append, true_and]
 omega
theorem rawTo.four {s : ByteArray} {k : Nat} {done : List UInt8} (h : rawTo s.data.toList k done) (h3 : 3 ≤ k) (hk : k < s.size) (a : pre [34, 34, 34] (s.data.toList.drop k) = false) (b : pre [92, 34, 34, 34] (s.data.toList.drop k) = true) : rawTo s.data.toList (k + 4) (done ++ [34, 34, 34]) := by
 unfold rawTo at *
 have hd : s.data.toList.drop (k + 4) = (s[k] :: s.data.toList.drop (k + 1)).drop 4 := by rw [← drop_at s k hk, List.drop_drop]
 rw [drop_at s k hk] at a b
 rw [hd, h, drop_at s k hk, rawL_cons, a, b]
 simp only [Bool.false_eq_true, if_false, if_true, Option.map_map]
 congr 1
 funext q
 simp only [Function.comp, Prod.mk.injEq, List.append_assoc, true_and]
 omega
theorem rawTo.fin {s : ByteArray} {k : Nat} {done : List UInt8} (h : rawTo s.data.toList k done) (hk : k < s.size) (a : pre [34, 34, 34] (s.data.toList.drop k) = true) : rawL (s.data.toList.drop 3) = some (done, k - 3 + 3) := by
 unfold rawTo at *
 rw [drop_at s k hk] at a
 rw [h, drop_at s k hk, rawL_cons, a]
 simp
theorem hasP_at (s q : ByteArray) (k : Nat) (w : World) (b : Bool) (h : pre q.data.toList (s.data.toList.drop k) = b) : Calls Tryz.prog 199 #[.string (s.extract k s.size), .string q] w fun e w' => e = .returned (.bool b) ∧ w = w' :=
 hasP (s.extract k s.size) q w b (by rw [ext_data]; exact h)
def blockL (l : List UInt8) : Option (List UInt8 × Nat) := (rawL (l.drop 3)).map fun q => (Blk.valueL q.1, q.2)
set_option maxRecDepth 100000 in
set_option maxHeartbeats 1000000 in
theorem blockq_any (s : ByteArray) (w : World) (hs : s.size ≤ 9000) (hs3 : 3 ≤ s.size) : Calls Tryz.prog 229 #[.string s] w fun e w' => e = .returned (pairS (blockL s.data.toList) 3) ∧ Below w.heap.size w w' := by
 go_enter Tryz.func229, Tryz.ntmps229
 go_wp2
 go_loopg [5] (s.size - 3) (fun g i wx => ∃ (k : Nat) (done : List UInt8), k + g = s.size ∧ 3 ≤ k ∧ i = .int .i64 k ∧ done.length ≤ k ∧ Below w.heap.size w wx ∧ Aside (Lib.IsBuilderF 102 5 w.heap.size w.heap.size (Lib.byteCells done) wx) ∧ Aside (rawTo s.data.toList k done))
 case atStart => exact ⟨3, [], by omega, by omega, rfl, by simp, (Below.refl _ _).alloc (Nat.le_refl _) _, Aside.intro (Lib.IsBuilderF.of (Lib.fresh_isBuilder _ _ _)), Aside.intro (by unfold rawTo; cases rawL (s.data.toList.drop 3) <;> simp)⟩
 case round =>
  obtain ⟨k, done, hk, hk3, rfl, hdl, hb, HBU, HT⟩ := hrel
  have hbs := hb.size
  have HB := Hd hb
  clear hb
  by_cases hlt : k < s.size
  · have hlt' : (k : Int) < (s.size : Int) := by omega
    have hk0 : (0 : Int) ≤ (k : Int) := by omega
    have hks : (k : Int) ≤ (s.size : Int) := by omega
    cases a : pre [34, 34, 34] (s.data.toList.drop k)
    · have HA := Hd (hasP_at s ⟨#[34, 34, 34]⟩ k wr false a)
      cases b : pre [92, 34, 34, 34] (s.data.toList.drop k)
      · have HQ := Hd (hasP_at s ⟨#[92, 34, 34, 34]⟩ k wr false b)
        have hT := Hd (HT.out.step hk3 hlt a b)
        have HW := Hd (writeByte w.heap.size w.heap.size (Lib.byteCells done) (s[k].toNat : Int) wr HBU.out (by rw [Lib.byteCells_length]; omega) hbs)
        clear HT HBU a b
        go_wp2_with fail
        refine HA.out.mono ?_
        rintro e w2 ⟨rfl, rfl⟩
        go_wp2_with fail
        refine HQ.out.mono ?_
        rintro e w2 ⟨rfl, rfl⟩
        go_wp2_with fail
        refine HW.out.mono ?_
        rintro e w2 ⟨rfl, hB2, hb2, _⟩
        have HB2 := Hd hB2
        have HBb := Hd hb2
        clear hB2 hb2
        go_wp2_with fail
        go_roundg (gk - 1)
        case measure => omega
        case rel => exact ⟨k + 1, done ++ [s[k]], by omega, by omega, by go_num, by simp; omega, HB.out.trans HBb.out, Aside.intro (.inr (by have := HB2.out; rwa [show Lib.byteCells done ++ [Value.int .u8 (s[k].toNat : Int)] = Lib.byteCells (done ++ [s[k]]) by simp [Lib.byteCells]] at this)), Aside.intro hT.out⟩
      · have HQ := Hd (hasP_at s ⟨#[92, 34, 34, 34]⟩ k wr true b)
        have hT := Hd (HT.out.four hk3 hlt a b)
        have hk4 : k + 4 ≤ s.size := by have := pre_len b; rw [List.length_drop, len_data] at this; simp at this; omega
        have HW := Hd (writeString w.heap.size w.heap.size (Lib.byteCells done) ⟨#[34, 34, 34]⟩ wr HBU.out (by rw [Lib.byteCells_length]; show done.length + 3 ≤ _; omega) hbs)
        clear HT HBU a b
        go_wp2_with fail
        refine HA.out.mono ?_
        rintro e w2 ⟨rfl, rfl⟩
        go_wp2_with fail
        refine HQ.out.mono ?_
        rintro e w2 ⟨rfl, rfl⟩
        go_wp2_with fail
        refine HW.out.mono ?_
        rintro e w2 ⟨rfl, hB2, hb2, _⟩
        have HB2 := Hd hB2
        have HBb := Hd hb2
        clear hB2 hb2
        go_wp2_with fail
        go_roundg (gk - 4)
        case measure => omega
        case rel => exact ⟨k + 4, done ++ [34, 34, 34], by omega, by omega, by go_num, by simp; omega, HB.out.trans HBb.out, Aside.intro (.inr (by have := HB2.out; rwa [show Lib.byteCells done ++ Lib.strCells ⟨#[34, 34, 34]⟩ = Lib.byteCells (done ++ [34, 34, 34]) by rw [Lib.strCells_eq]; simp [Lib.byteCells]] at this)), Aside.intro hT.out⟩
    · have HA := Hd (hasP_at s ⟨#[34, 34, 34]⟩ k wr true a)
      have hr : Hid (pairS (blockL s.data.toList) 3 = .tuple #[.string ⟨(Blk.valueL done).toArray⟩, .int .i64 (3 + (k - 3 + 3) : Nat)]) := Hd (by rw [blockL, HT.out.fin hlt a]; rfl)
      have HC := Hd (builderText w.heap.size w.heap.size done wr HBU.out hbs)
      clear HT HBU a
      go_wp2_with fail
      refine HA.out.mono ?_
      rintro e w2 ⟨rfl, rfl⟩
      go_wp2_with fail
      refine HC.out.mono ?_
      rintro e w2 ⟨rfl, _, hb2, _⟩
      have HV := Hd (Blk.pvalue ⟨done.toArray⟩ w2 (by rw [size_mk]; omega))
      have HBb := Hd hb2
      have hb2s := hb2.size
      clear hb2
      go_wp2_with fail
      refine HV.out.mono ?_
      rintro e w3 ⟨rfl, hb3⟩
      have HBc := Hd hb3
      clear hb3
      go_wp2_with fail
      go_ret2
      exact ⟨by rw [hr.out]; exact ret_pairN rfl (by omega), HB.out.trans (HBb.out.trans (HBc.out.mono (by omega)))⟩
  · obtain rfl : k = s.size := by omega
    have hr : Hid (pairS (blockL s.data.toList) 3 = .tuple #[.string ⟨#[]⟩, .int .i64 0]) := Hd (by rw [blockL, HT.out.stop (Nat.le_refl _)]; rfl)
    clear HT HBU
    go_wp2_with fail
    go_ret2
    exact ⟨by rw [hr.out]; rfl, HB.out⟩
def quoteS (l : List UInt8) : Value := match quoteL l with | some q => tokS 5 q.1 q.2 | none => tokS 5 [] 0
theorem quoteL_eq (l : List UInt8) : quoteL l = if pre [34, 34, 34] l then (blockL l).map fun q => (q.1, 3 + q.2) else if headB (fun b => b == 34) l then (lineL (l.drop 1)).map fun q => (q.1, 1 + q.2) else none := by
 cases l with
 | nil => rfl
 | cons b t =>
   simp only [quoteL, blockL, Option.map_map]
   rfl
abbrev tokV (k : Int) (x : ByteArray) : Obj := .cells #[.int .i64 k, .string x] 70
theorem tok_cells {w : World} {b : Nat} {k x : Value} (h : w.heap[b]? = some (.cells #[k, x] 70 (0, 0))) : w.cell? ⟨b, 0, none⟩ = some k ∧ w.cell? ⟨b, 1, none⟩ = some x ∧ w.frozen? ⟨b, 0, none⟩ = false ∧ w.frozen? ⟨b, 1, none⟩ = false := by
 simp [World.cell?, World.frozen?, h]
theorem tok_set {w : World} {b : Nat} {k x k' x' : Value} (h : w.heap[b]? = some (.cells #[k, x] 70 (0, 0))) : ((w.setCell ⟨b, 0, none⟩ k').setCell ⟨b, 1, none⟩ x').heap[b]? = some (.cells #[k', x'] 70 (0, 0)) := by
 simp [World.setCell, Array.getElem?_modify, h]
set_option maxRecDepth 100000 in
set_option maxHeartbeats 1000000 in
theorem quote_any (s : ByteArray) (w : World) (hs : s.size ≤ 9000) (h3 : Laid3 w) : Calls Tryz.prog 168 #[.string s] w fun e w' => e = .returned (quoteS s.data.toList) ∧ Below w.heap.size w w' := by
 have H3 := Hd (h3.alloc (tokV 0 ⟨#[]⟩))
 have HE := Hd (quoteL_eq s.data.toList)
 cases a : pre [34, 34, 34] s.data.toList
 · have HA := Hd (hasP s ⟨#[34, 34, 34]⟩ (w.alloc (tokV 0 ⟨#[]⟩)) false a)
   cases b : headB (fun b => b == 34) s.data.toList
   · have HQ := Hd (hasP s ⟨#[34]⟩ (w.alloc (tokV 0 ⟨#[]⟩)) false ((pre_one 34 _).trans b))
     have hr : Hid (quoteS s.data.toList = tokS 5 [] 0) := Hd (by rw [quoteS, HE.out, a, b]; rfl)
     clear a b h3
     go_enter Tryz.func168, Tryz.ntmps168
     go_wp2_with fail
     refine HA.out.mono ?_
     rintro e w2 ⟨rfl, rfl⟩
     go_wp2_with fail
     refine HQ.out.mono ?_
     rintro e w2 ⟨rfl, rfl⟩
     go_wp2_with fail
     refine ret_tok rfl rfl rfl (heap_alloc_last _ _) ⟨?_, below_new⟩
     rw [hr.out]
     rfl
   · have HQ := Hd (hasP s ⟨#[34]⟩ (w.alloc (tokV 0 ⟨#[]⟩)) true ((pre_one 34 _).trans b))
     have h1 : 1 ≤ s.size := by
       rcases Nat.eq_zero_or_pos s.size with h | h
       · rw [nil_of_size h] at b; cases b
       · exact h
     have hL := line_any s (w.alloc (tokV 0 ⟨#[]⟩)) hs h1 H3.out
     cases hl : lineL (s.data.toList.drop 1) with
     | none =>
       have hr : Hid (quoteS s.data.toList = tokS 5 [] 0) := Hd (by rw [quoteS, HE.out, a, b, hl]; rfl)
       simp only [hl, pairS] at hL
       have HL := Hd hL
       clear a b h3 hL hl
       go_enter Tryz.func168, Tryz.ntmps168
       go_wp2_with fail
       refine HA.out.mono ?_
       rintro e w2 ⟨rfl, rfl⟩
       go_wp2_with fail
       refine HQ.out.mono ?_
       rintro e w2 ⟨rfl, rfl⟩
       go_wp2_with fail
       refine HL.out.mono ?_
       rintro e w2 ⟨rfl, hb2⟩
       have hc0 : w2.heap[w.heap.size]? = some (tokV 0 ⟨#[]⟩) := (hb2.block w.heap.size (by simp)).trans (heap_alloc_last _ _)
       obtain ⟨c0, c1, f0, f1⟩ := tok_cells hc0
       have HC0 := Hd hc0
       have HBb := Hd hb2
       clear hc0 hb2
       go_wp2_with fail
       refine ret_tok rfl rfl rfl (tok_set HC0.out) ⟨?_, ((below_new.trans (HBb.out.mono (by simp))).setCell (Nat.le_refl _) _).setCell (Nat.le_refl _) _⟩
       rw [hr.out]
       rfl
     | some q =>
       obtain ⟨x, n⟩ := q
       obtain ⟨n1, hn1⟩ : ∃ n1, 1 + n = n1 := ⟨_, rfl⟩
       have hr : Hid (quoteS s.data.toList = tokS 5 x n1) := Hd (by rw [quoteS, HE.out, a, b, hl, ← hn1]; rfl)
       simp only [hl, pairS] at hL
       rw [hn1] at hL
       have HL := Hd hL
       have n0 : ((n1 : Int) == 0) = false := by simp; omega
       clear a b h3 hL hl
       go_enter Tryz.func168, Tryz.ntmps168
       go_wp2_with fail
       refine HA.out.mono ?_
       rintro e w2 ⟨rfl, rfl⟩
       go_wp2_with fail
       refine HQ.out.mono ?_
       rintro e w2 ⟨rfl, rfl⟩
       go_wp2_with fail
       refine HL.out.mono ?_
       rintro e w2 ⟨rfl, hb2⟩
       have hc0 : w2.heap[w.heap.size]? = some (tokV 0 ⟨#[]⟩) := (hb2.block w.heap.size (by simp)).trans (heap_alloc_last _ _)
       obtain ⟨c0, c1, f0, f1⟩ := tok_cells hc0
       have HC0 := Hd hc0
       have HBb := Hd hb2
       clear hc0 hb2
       go_wp2_with fail
       refine ret_tok rfl rfl rfl (tok_set HC0.out) ⟨?_, ((below_new.trans (HBb.out.mono (by simp))).setCell (Nat.le_refl _) _).setCell (Nat.le_refl _) _⟩
       rw [hr.out, tokS_yes (by omega)]
       rfl
 · have HA := Hd (hasP s ⟨#[34, 34, 34]⟩ (w.alloc (tokV 0 ⟨#[]⟩)) true a)
   have h3s : 3 ≤ s.size := by have := pre_len a; rw [len_data] at this; exact this
   have hL := blockq_any s (w.alloc (tokV 0 ⟨#[]⟩)) hs h3s
   cases hl : blockL s.data.toList with
   | none =>
       have hr : Hid (quoteS s.data.toList = tokS 5 [] 0) := Hd (by rw [quoteS, HE.out, a, hl]; rfl)
       simp only [hl, pairS] at hL
       have HL := Hd hL
       clear a h3 hL hl
       go_enter Tryz.func168, Tryz.ntmps168
       go_wp2_with fail
       refine HA.out.mono ?_
       rintro e w2 ⟨rfl, rfl⟩
       go_wp2_with fail
       refine HL.out.mono ?_
       rintro e w2 ⟨rfl, hb2⟩
       have hc0 : w2.heap[w.heap.size]? = some (tokV 0 ⟨#[]⟩) := (hb2.block w.heap.size (by simp)).trans (heap_alloc_last _ _)
       obtain ⟨c0, c1, f0, f1⟩ := tok_cells hc0
       have HC0 := Hd hc0
       have HBb := Hd hb2
       clear hc0 hb2
       go_wp2_with fail
       refine ret_tok rfl rfl rfl (tok_set HC0.out) ⟨?_, ((below_new.trans (HBb.out.mono (by simp))).setCell (Nat.le_refl _) _).setCell (Nat.le_refl _) _⟩
       rw [hr.out]
       rfl
   | some q =>
       obtain ⟨x, n⟩ := q
       obtain ⟨n1, hn1⟩ : ∃ n1, 3 + n = n1 := ⟨_, rfl⟩
       have hr : Hid (quoteS s.data.toList = tokS 5 x n1) := Hd (by rw [quoteS, HE.out, a, hl, ← hn1]; rfl)
       simp only [hl, pairS] at hL
       rw [hn1] at hL
       have HL := Hd hL
       have n0 : ((n1 : Int) == 0) = false := by simp; omega
       clear a h3 hL hl
       go_enter Tryz.func168, Tryz.ntmps168
       go_wp2_with fail
       refine HA.out.mono ?_
       rintro e w2 ⟨rfl, rfl⟩
       go_wp2_with fail
       refine HL.out.mono ?_
       rintro e w2 ⟨rfl, hb2⟩
       have hc0 : w2.heap[w.heap.size]? = some (tokV 0 ⟨#[]⟩) := (hb2.block w.heap.size (by simp)).trans (heap_alloc_last _ _)
       obtain ⟨c0, c1, f0, f1⟩ := tok_cells hc0
       have HC0 := Hd hc0
       have HBb := Hd hb2
       clear hc0 hb2
       go_wp2_with fail
       refine ret_tok rfl rfl rfl (tok_set HC0.out) ⟨?_, ((below_new.trans (HBb.out.mono (by simp))).setCell (Nat.le_refl _) _).setCell (Nat.le_refl _) _⟩
       rw [hr.out, tokS_yes (by omega)]
       rfl
def tokVals (ts : List (Int × List UInt8)) : List Value := ts.flatMap fun t => [.int .i64 t.1, .string ⟨t.2.toArray⟩]
theorem tokVals_add (ts : List (Int × List UInt8)) (k : Int) (x : List UInt8) : tokVals (ts ++ [(k, x)]) = tokVals ts ++ [.int .i64 k, .string ⟨x.toArray⟩] := by simp [tokVals]
def readS (l : List UInt8) : List (Int × List UInt8) × Int := if 8192 < l.length then ([], 3) else if sourceB l = false then ([], 2) else match readL l with | none => ([], 2) | some ts => (ts, 0)
theorem info_tok : (Tryz.prog.info? 70).map (fun i => (i.zero, i.size, i.bytes)) = some (some (.agg #[.int .i64 0, .string ⟨#[]⟩]), 2, 24) := by kernel_rfl
theorem own_shape2 {w : World} {base : Nat} {e : TypeId} {v : Value} {n : Nat} {xs : List Value} (h : w.ownsRow base e 2 v n xs) : ∃ A cap, v = .slice A n cap := by
 rcases h.2 with ⟨hv, hn⟩ | ⟨g, cap, cur, hv, _⟩
 · exact ⟨none, 0, by rw [hv, hn]⟩
 · exact ⟨_, _, hv⟩
theorem cell_two_new (w : World) (a b : Value) (t : TypeId) : ∀ (j : Nat) u, [a, b][j]? = some u → (w.alloc (.cells #[a, b] t)).cell? ((⟨w.heap.size, 0, none⟩ : Addr).add j) = some u := by
 intro j u hu
 have hadd : (⟨w.heap.size, 0, none⟩ : Addr).add j = ⟨w.heap.size, j, none⟩ := by unfold Addr.add; split <;> simp_all
 rw [hadd]
 match j, hu with
 | 0, hu => cases hu; rw [World.cell?_alloc_at _ _ _ _ rfl]; rfl
 | 1, hu => cases hu; rw [World.cell?_alloc_at _ _ _ _ rfl]; rfl
 | j + 2, hu => simp at hu
abbrev kindsArr : Array Value := #[.func (.func 137) #[] #[], .func (.func 166) #[] #[], .func (.func 167) #[] #[], .func (.func 168) #[] #[]]
theorem own_base {w : World} {B B' : Nat} {e : TypeId} {k : Nat} {v : Value} {n : Nat} {xs : List Value} (h : w.ownsRow B e k v n xs) (hB : B' ≤ B) : w.ownsRow B' e k v n xs := by
 refine ⟨h.1, h.2.imp id ?_⟩
 rintro ⟨g, cap, cur, hv, hb, r⟩
 exact ⟨g, cap, cur, hv, by omega, r⟩
theorem cell_two_at (w : World) (a b : Value) (t : TypeId) {n : Nat} (hn : n = w.heap.size) : ∀ (j : Nat) u, [a, b][j]? = some u → (w.alloc (.cells #[a, b] t)).cell? ((⟨n, 0, none⟩ : Addr).add j) = some u := by
 subst hn
 exact cell_two_new w a b t
theorem kidx0 (w : World) : (Instr.index 196 (.agg kindsArr) (.int .i64 0)).run Tryz.prog w = .ok (.func (.func 137) #[] #[]) w := by kernel_rfl
theorem kidx1 (w : World) : (Instr.index 196 (.agg kindsArr) (.int .i64 1)).run Tryz.prog w = .ok (.func (.func 166) #[] #[]) w := by kernel_rfl
theorem kidx2 (w : World) : (Instr.index 196 (.agg kindsArr) (.int .i64 2)).run Tryz.prog w = .ok (.func (.func 167) #[] #[]) w := by kernel_rfl
theorem kidx3 (w : World) : (Instr.index 196 (.agg kindsArr) (.int .i64 3)).run Tryz.prog w = .ok (.func (.func 168) #[] #[]) w := by kernel_rfl
def kindN (l : List UInt8) : Nat → Nat | 0 => markN l | 1 => wordN l | 2 => (nbL l).1 | _ => match quoteL l with | some q => q.2 | none => 0
def kindK (l : List UInt8) : Nat → Int | 0 => 1 | 1 => 2 | 2 => (nbL l).2 | _ => 5
def kindT (l : List UInt8) : Nat → List UInt8 | 0 => l.take (markN l) | 1 => l.take (wordN l) | 2 => l.take (nbL l).1 | _ => match quoteL l with | some q => q.1 | none => []
def kindF : Nat → Nat | 0 => 137 | 1 => 166 | 2 => 167 | _ => 168
theorem kind_any (s : ByteArray) (w : World) (hs : s.size ≤ 9000) (h3 : Laid3 w) (j : Nat) : Calls Tryz.prog (kindF j) #[.string s] w fun e w' => e = .returned (tokS (kindK s.data.toList j) (kindT s.data.toList j) (kindN s.data.toList j)) ∧ Below w.heap.size w w' := by
 match j with
 | 0 => exact mark_any s w
 | 1 => exact word_any s w (by omega)
 | 2 => exact number_any s w (by omega)
 | j + 3 =>
   have h := quote_any s w hs h3
   unfold quoteS at h
   show Calls Tryz.prog 168 _ _ fun e w' => e = .returned (tokS 5 (match quoteL s.data.toList with | some q => q.1 | none => []) (match quoteL s.data.toList with | some q => q.2 | none => 0)) ∧ _
   cases hq : quoteL s.data.toList with
   | none => rw [hq] at h; exact h
   | some q => rw [hq] at h; exact h
theorem kind_at (s : ByteArray) (k : Nat) (w : World) (hs : s.size ≤ 9000) (h3 : Laid3 w) (j : Nat) : Calls Tryz.prog (kindF j) #[.string (s.extract k s.size)] w fun e w' => e = .returned (tokS (kindK (s.data.toList.drop k) j) (kindT (s.data.toList.drop k) j) (kindN (s.data.toList.drop k) j)) ∧ Below w.heap.size w w' := by
 have h := kind_any (s.extract k s.size) w (by rw [ext_size]; omega) h3 j
 rwa [ext_data] at h
theorem tok_first {l : List UInt8} {j : Nat} (hj : j < 4) (h0 : ∀ i, i < j → kindN l i = 0) (hn : kindN l j ≠ 0) : tokL l = some ((kindK l j, kindT l j), kindN l j) := by
 unfold tokL
 rcases (by omega : j = 0 ∨ j = 1 ∨ j = 2 ∨ j = 3) with rfl | rfl | rfl | rfl
 · rw [if_pos (show markN l ≠ 0 from hn)]; rfl
 · have a := h0 0 (by omega)
   rw [if_neg (by show ¬ markN l ≠ 0; rw [show markN l = 0 from a]; simp), if_pos (show wordN l ≠ 0 from hn)]; rfl
 · have a := h0 0 (by omega)
   have b := h0 1 (by omega)
   rw [if_neg (by rw [show markN l = 0 from a]; simp), if_neg (by rw [show wordN l = 0 from b]; simp), if_pos (show (nbL l).1 ≠ 0 from hn)]; rfl
 · have a := h0 0 (by omega)
   have b := h0 1 (by omega)
   have c := h0 2 (by omega)
   rw [if_neg (by rw [show markN l = 0 from a]; simp), if_neg (by rw [show wordN l = 0 from b]; simp), if_neg (by rw [show (nbL l).1 = 0 from c]; simp)]
   unfold kindN at hn
   simp only [kindN, kindT, kindK]
   cases hq : quoteL l with
   | none => rw [hq] at hn; exact absurd rfl hn
   | some q => rfl
theorem tok_nothing {l : List UInt8} (h0 : ∀ i, i < 4 → kindN l i = 0) : tokL l = none := by
 have a := h0 0 (by omega)
 have b := h0 1 (by omega)
 have c := h0 2 (by omega)
 have d := h0 3 (by omega)
 unfold tokL
 rw [if_neg (by rw [show markN l = 0 from a]; simp), if_neg (by rw [show wordN l = 0 from b]; simp), if_neg (by rw [show (nbL l).1 = 0 from c]; simp)]
 unfold kindN at d
 cases hq : quoteL l with
 | none => rfl
 | some q =>
   rw [hq] at d
   have := (quoteL_le hq).1
   simp only at d
   omega
theorem kindN_le (l : List UInt8) (j : Nat) : kindN l j ≤ l.length := by
 match j with
 | 0 => exact markN_le l
 | 1 => exact wordN_le l
 | 2 => exact numberL_le l
 | j + 3 =>
   show (match quoteL l with | some q => q.2 | none => 0) ≤ _
   cases hq : quoteL l with
   | none => simp
   | some q => exact (quoteL_le hq).2
def readTo (l : List UInt8) (k : Nat) (done : List (Int × List UInt8)) : Prop := readL l = (readL (l.drop k)).map (done ++ ·)
theorem readTo.gap {l : List UInt8} {k g : Nat} {done : List (Int × List UInt8)} (h : readTo l k done) (hg : gapL (l.drop k) = g) (g0 : g ≠ 0) : readTo l (k + g) done := by
 unfold readTo at *
 rw [h, readL_gap (by rw [hg]; exact g0), hg, List.drop_drop]
theorem readTo.tok {l : List UInt8} {k : Nat} {done : List (Int × List UInt8)} {t : Int × List UInt8} {n : Nat} (h : readTo l k done) (hg : gapL (l.drop k) = 0) (hk : l.drop k ≠ []) (ht : tokL (l.drop k) = some (t, n)) : readTo l (k + n) (done ++ [t]) := by
 unfold readTo at *
 rw [h, readL_tok hg hk ht, List.drop_drop, Option.map_map]
 congr 1
 funext q
 simp
theorem readTo.bad {l : List UInt8} {k : Nat} {done : List (Int × List UInt8)} (h : readTo l k done) (hg : gapL (l.drop k) = 0) (hk : l.drop k ≠ []) (ht : tokL (l.drop k) = none) : readL l = none := by
 rw [h, readL_none hg hk ht]; rfl
theorem readTo.fin {l : List UInt8} {k : Nat} {done : List (Int × List UInt8)} (h : readTo l k done) (hk : l.drop k = []) : readL l = some done := by
 rw [h, hk, readL_nil]; simp
theorem arr_cells {w : World} {b : Nat} {t : TypeId} {a c d e : Value} (h : w.heap[b]? = some (.cells #[a, c, d, e] t (0, 0))) : w.cell? ⟨b, 0, none⟩ = some a ∧ w.cell? ⟨b, 1, none⟩ = some c ∧ w.cell? ⟨b, 2, none⟩ = some d ∧ w.cell? ⟨b, 3, none⟩ = some e := by
 simp [World.cell?, h]
set_option maxRecDepth 100000 in
set_option maxHeartbeats 4000000 in
theorem read_any (s : ByteArray) (w : World) (hs : s.size ≤ 9000) (h3 : Laid3 w) : Calls Tryz.prog 92 #[.string s] w fun e w' => ∃ A cap, e = .returned (.tuple #[.slice A (readS s.data.toList).1.length cap, .int .i64 (readS s.data.toList).2]) ∧ w'.ownsRow w.heap.size 70 2 (.slice A (readS s.data.toList).1.length cap) (readS s.data.toList).1.length (tokVals (readS s.data.toList).1) ∧ Below w.heap.size w w' := by
 obtain ⟨i0, hi, hz0, hz1, hz2⟩ := info_parts info_tok
 have hl := len_data s
 by_cases hbig : 8192 < s.size
 · have hr : Hid (readS s.data.toList = ([], 3)) := Hd (by unfold readS; rw [if_pos (by omega)])
   have hbig' : (8192 : Int) < (s.size : Int) := by omega
   clear hl h3
   go_enter Tryz.func92, Tryz.ntmps92
   go_wp2
   go_step3
   go_wp2_with fail
   simp only [Exit.noGoto_ret]
   go_ret2
   rw [hr.out]
   exact ⟨none, 0, rfl, World.ownsRow_nil _ _ _ _, Below.refl _ _⟩
 have hbig' : ¬ (8192 : Int) < (s.size : Int) := by omega
 have hS := source_any s w (by omega) h3.1
 cases hsrc : sourceB s.data.toList
 · have hr : Hid (readS s.data.toList = ([], 2)) := Hd (by unfold readS; rw [if_neg (by omega), if_pos hsrc])
   rw [hsrc] at hS
   have HS := Hd hS
   clear hl h3 hS hsrc
   go_enter Tryz.func92, Tryz.ntmps92
   go_wp2
   go_step3
   go_wp2_with fail
   refine HS.out.mono ?_
   rintro e w1 ⟨rfl, hb⟩
   have HB := Hd hb
   clear hb
   go_wp2_with fail
   simp only [Exit.noGoto_ret]
   go_ret2
   rw [hr.out]
   exact ⟨none, 0, rfl, World.ownsRow_nil _ _ _ _, HB.out⟩
 have hrs : Hid (readS s.data.toList = match readL s.data.toList with | none => ([], 2) | some ts => (ts, 0)) := Hd (by unfold readS; rw [if_neg (by omega), if_neg (by rw [hsrc]; simp)])
 rw [hsrc] at hS
 have HS := Hd hS
 have H3 := Hd h3
 have HL := Hd hl
 clear hS hsrc h3 hl
 go_enter Tryz.func92, Tryz.ntmps92
 go_wp2
 go_step3
 go_wp2_with fail
 refine HS.out.mono ?_
 rintro e w1 ⟨rfl, hb1⟩
 have HB1 := Hd hb1
 have hb1s := hb1.size
 clear hb1
 go_wp2_with fail
 go_step3
 go_wp2_with fail
 go_loopg [5, 6] s.size (fun g ov av wx => ∃ (k : Nat) (done : List (Int × List UInt8)), k + g = s.size ∧ av = .int .i64 k ∧ done.length ≤ k ∧ Aside (readTo s.data.toList k done) ∧ wx.ownsRow (w1.heap.size + 1) 70 2 ov done.length (tokVals done) ∧ wx.heap[w1.heap.size]? = some (.cells kindsArr 196 (0, 0)) ∧ Below w1.heap.size w1 wx)
 case atStart => exact ⟨0, [], by omega, rfl, by simp, Aside.intro (by unfold readTo; rw [List.drop_zero]; cases readL s.data.toList <;> simp), World.ownsRow_nil _ _ _ _, heap_alloc_last _ _, below_new⟩
 case round =>
   obtain ⟨k, done, hk, rfl, hdl, HR, hown, harr, hb⟩ := hrel
   obtain ⟨A, cap, rfl⟩ := own_shape2 hown
   have hbs := hb.size
   have hlt1 : w1.heap.size < wr.heap.size := (Array.getElem?_eq_some_iff.1 harr).1
   have hk0 : (0 : Int) ≤ (k : Int) := by omega
   have hks : (k : Int) ≤ (s.size : Int) := by omega
   have HB := Hd hb
   have hG := gap_at s k wr hs
   have hgl := gapL_le (s.data.toList.drop k)
   rw [List.length_drop, HL.out] at hgl
   obtain ⟨g, hg⟩ : ∃ g, gapL (s.data.toList.drop k) = g := ⟨_, rfl⟩
   rw [hg] at hG hgl
   have HG := Hd hG
   have HGE := Hd hg
   clear hG hg hb
   rcases Nat.eq_zero_or_pos g with hz | hz
   · subst hz
     by_cases hend : k = s.size
     · have e0 : ((k : Int) == (s.size : Int)) = true := by simp; omega
       have hr : Hid (readS s.data.toList = (done, 0)) := Hd (by rw [hrs.out, HR.out.fin (drop_all s k (by omega))])
       clear hend HR
       go_wp2_with fail
       refine HG.out.mono ?_
       rintro e w2 ⟨rfl, hb2⟩
       have HO := Hd (own_below hown hb2)
       have HB2 := Hd hb2
       clear hb2 hown
       go_wp2_with fail
       simp only [Exit.noGoto_ret]
       go_ret2
       rw [hr.out]
       exact ⟨A, cap, rfl, own_base HO.out (by omega), (HB1.out.trans (HB.out.mono hb1s)).trans (HB2.out.mono (by omega))⟩
     · have e0 : ((k : Int) == (s.size : Int)) = false := by simp; omega
       have hlt : k < s.size := by omega
       have hne : Hid (s.data.toList.drop k ≠ []) := Hd (by rw [drop_at s k hlt]; simp)
       clear hend
       go_wp2_with fail
       refine HG.out.mono ?_
       rintro e w2 ⟨rfl, hb2⟩
       obtain ⟨c0, c1, c2, c3⟩ := arr_cells ((hb2.block w1.heap.size hlt1).trans harr)
       have hown2 := own_below hown hb2
       have harr2 := (hb2.block w1.heap.size hlt1).trans harr
       have hb12 := HB.out.trans (hb2.mono hbs)
       clear hb2 hown harr
       go_wp2_with fail
       go_loopg [5, 6, 35] 4 (fun g2 ov2 av2 jv wx => ∃ j : Nat, j + g2 = 4 ∧ ov2 = .slice A done.length cap ∧ av2 = .int .i64 k ∧ jv = .int .i64 j ∧ Aside (∀ i, i < j → kindN (s.data.toList.drop k) i = 0) ∧ wx.ownsRow (w1.heap.size + 1) 70 2 (.slice A done.length cap) done.length (tokVals done) ∧ wx.heap[w1.heap.size]? = some (.cells kindsArr 196 (0, 0)) ∧ Below w1.heap.size w1 wx)
       case atStart => exact ⟨0, by omega, rfl, rfl, rfl, Aside.intro (fun i h => by omega), hown2, harr2, hb12⟩
       case round =>
        obtain ⟨j, hj, rfl, rfl, rfl, HK, hown, harr, hb⟩ := hrel
        have hbs2 := hb.size
        have hlt2 : w1.heap.size < wr.heap.size := (Array.getElem?_eq_some_iff.1 harr).1
        have HB := Hd hb
        have H3r := Hd (H3.out.below (HB1.out.trans (hb.mono hb1s)))
        clear hb
        by_cases hj4 : j = 4
        · have hr : Hid (readS s.data.toList = ([], 2)) := Hd (by rw [hrs.out, HR.out.bad HGE.out hne.out (tok_nothing (by rw [hj4] at HK; exact HK.out))])
          subst hj4
          clear HK HR hown
          go_wp2_with fail
          simp only [Exit.noGoto_ret]
          go_ret2
          rw [hr.out]
          exact ⟨none, 0, rfl, World.ownsRow_nil _ _ _ _, HB1.out.trans (HB.out.mono hb1s)⟩
        · have hC := kind_at s k wr hs H3r.out j
          have hnl := kindN_le (s.data.toList.drop k) j
          rw [List.length_drop, HL.out] at hnl
          obtain ⟨n, hn⟩ : ∃ n, kindN (s.data.toList.drop k) j = n := ⟨_, rfl⟩
          obtain ⟨K, hKK⟩ : ∃ K, kindK (s.data.toList.drop k) j = K := ⟨_, rfl⟩
          obtain ⟨T, hT⟩ : ∃ T, kindT (s.data.toList.drop k) j = T := ⟨_, rfl⟩
          rw [hn, hKK, hT] at hC
          rw [hn] at hnl
          have HN := Hd hn
          rcases Nat.eq_zero_or_pos n with hnz | hnz
          · have hK2 : Hid (∀ i, i < j + 1 → kindN (s.data.toList.drop k) i = 0) := Hd (fun i hi => by
              rcases Nat.lt_or_ge i j with h | h
              · exact HK.out i h
              · obtain rfl : i = j := by omega
                exact HN.out.trans hnz)
            subst hnz
            rw [tokS_no] at hC
            clear HK hn hKK hT
            rcases (by omega : j = 0 ∨ j = 1 ∨ j = 2 ∨ j = 3) with rfl | rfl | rfl | rfl
            · have HC := Hd hC
              have hidx := kidx0
              clear hC
              go_wp2_with fail
              refine HC.out.mono ?_
              rintro e w3 ⟨rfl, hb3⟩
              have HO := Hd ((own_below hown hb3).alloc (.cells #[.int .i64 0, .string ⟨#[]⟩] 70))
              have HB3 := Hd hb3
              have hb3s := hb3.size
              clear hb3 hown hidx
              go_wp2_with fail
              go_roundg 3
              case measure => omega
              case rel => exact ⟨1, by omega, rfl, rfl, by go_num, Aside.intro hK2.out, HO.out, (Below.heap_alloc _ _ _ (by omega)).trans ((HB3.out.block w1.heap.size hlt2).trans harr), (HB.out.trans (HB3.out.mono hbs2)).alloc (by omega) _⟩
            · have HC := Hd hC
              have hidx := kidx1
              clear hC
              go_wp2_with fail
              refine HC.out.mono ?_
              rintro e w3 ⟨rfl, hb3⟩
              have HO := Hd ((own_below hown hb3).alloc (.cells #[.int .i64 0, .string ⟨#[]⟩] 70))
              have HB3 := Hd hb3
              have hb3s := hb3.size
              clear hb3 hown hidx
              go_wp2_with fail
              go_roundg 2
              case measure => omega
              case rel => exact ⟨2, by omega, rfl, rfl, by go_num, Aside.intro hK2.out, HO.out, (Below.heap_alloc _ _ _ (by omega)).trans ((HB3.out.block w1.heap.size hlt2).trans harr), (HB.out.trans (HB3.out.mono hbs2)).alloc (by omega) _⟩
            · have HC := Hd hC
              have hidx := kidx2
              clear hC
              go_wp2_with fail
              refine HC.out.mono ?_
              rintro e w3 ⟨rfl, hb3⟩
              have HO := Hd ((own_below hown hb3).alloc (.cells #[.int .i64 0, .string ⟨#[]⟩] 70))
              have HB3 := Hd hb3
              have hb3s := hb3.size
              clear hb3 hown hidx
              go_wp2_with fail
              go_roundg 1
              case measure => omega
              case rel => exact ⟨3, by omega, rfl, rfl, by go_num, Aside.intro hK2.out, HO.out, (Below.heap_alloc _ _ _ (by omega)).trans ((HB3.out.block w1.heap.size hlt2).trans harr), (HB.out.trans (HB3.out.mono hbs2)).alloc (by omega) _⟩
            · have HC := Hd hC
              have hidx := kidx3
              clear hC
              go_wp2_with fail
              refine HC.out.mono ?_
              rintro e w3 ⟨rfl, hb3⟩
              have HO := Hd ((own_below hown hb3).alloc (.cells #[.int .i64 0, .string ⟨#[]⟩] 70))
              have HB3 := Hd hb3
              have hb3s := hb3.size
              clear hb3 hown hidx
              go_wp2_with fail
              go_roundg 0
              case measure => omega
              case rel => exact ⟨4, by omega, rfl, rfl, by go_num, Aside.intro hK2.out, HO.out, (Below.heap_alloc _ _ _ (by omega)).trans ((HB3.out.block w1.heap.size hlt2).trans harr), (HB.out.trans (HB3.out.mono hbs2)).alloc (by omega) _⟩
          · have hn0 : (0 : Int) < (n : Int) := by omega
            have hT2 := Hd (HR.out.tok HGE.out hne.out (tok_first (by omega) HK.out (by rw [hn]; omega)))
            rw [hn, hKK, hT] at hT2
            rw [tokS_yes (by omega)] at hC
            clear HK hn hKK hT HR
            rcases (by omega : j = 0 ∨ j = 1 ∨ j = 2 ∨ j = 3) with rfl | rfl | rfl | rfl
            · have HC := Hd hC
              have hidx := kidx0
              clear hC
              go_wp2_with fail
              refine HC.out.mono ?_
              rintro e w3 ⟨rfl, hb3⟩
              have hown3 := (own_below hown hb3).alloc (.cells #[.int .i64 K, .string ⟨T.toArray⟩] 70)
              have HB3 := Hd hb3
              have hb3s := hb3.size
              clear hb3 hown hidx
              go_wp2_with (at_builtin; refine wpList_append_own _ rfl _ _ 45 rfl (w1.heap.size + 1) 70 i0 (.agg #[.int .i64 0, .string ⟨#[]⟩]) 2 24 Tryz.underlying45 hi hz0 hz1 hz2 rfl (by decide) _ _ _ rfl (hown3.alloc _) _ 1 1 [.int .i64 K, .string ⟨T.toArray⟩] rfl rfl (cell_two_at _ _ _ _ (by simp)) (by intro x hx; simp at hx; rcases hx with rfl | rfl <;> rfl) (by unfold maxLen; omega) (by omega) (by simp; omega) ?_; intro v' w4 hown' hgrow _; obtain ⟨A', cap', rfl⟩ := own_shape2 hown'; have HG4 := Hd hgrow; have HO4 := Hd hown'; have HW := Hd hown3; clear hgrow hown' hown3)
              have hb5 : Below w1.heap.size w1 ((w3.alloc (.cells #[.int .i64 K, .string ⟨T.toArray⟩] 70)).alloc (.cells #[.int .i64 K, .string ⟨T.toArray⟩] 70)) := ((HB.out.trans (HB3.out.mono hbs2)).alloc (by omega) _).alloc (by simp; omega) _
              have harr4 : w4.heap[w1.heap.size]? = some (.cells kindsArr 196 (0, 0)) := by
                obtain ⟨_, _, _, _, hbk⟩ := HG4.out
                rw [hbk w1.heap.size (by simp; omega) (fun e => by have := (HW.out.lt _ e.symm).1; omega), Below.heap_alloc _ _ _ (by simp; omega), Below.heap_alloc _ _ _ (by omega), HB3.out.block w1.heap.size hlt2]
                exact harr
              go_roundg (s.size - (k + n))
              case measure => omega
              case rel => exact ⟨k + n, done ++ [(K, T)], by omega, by go_num, by simp; omega, Aside.intro hT2.out, by rw [tokVals_add, List.length_append]; exact HO4.out, harr4, hb5.grown HG4.out (by have := hb5.size; omega) (fun q hq => by have := (HW.out.lt q hq).1; omega)⟩
            · have HC := Hd hC
              have hidx := kidx1
              clear hC
              go_wp2_with fail
              refine HC.out.mono ?_
              rintro e w3 ⟨rfl, hb3⟩
              have hown3 := (own_below hown hb3).alloc (.cells #[.int .i64 K, .string ⟨T.toArray⟩] 70)
              have HB3 := Hd hb3
              have hb3s := hb3.size
              clear hb3 hown hidx
              go_wp2_with (at_builtin; refine wpList_append_own _ rfl _ _ 45 rfl (w1.heap.size + 1) 70 i0 (.agg #[.int .i64 0, .string ⟨#[]⟩]) 2 24 Tryz.underlying45 hi hz0 hz1 hz2 rfl (by decide) _ _ _ rfl (hown3.alloc _) _ 1 1 [.int .i64 K, .string ⟨T.toArray⟩] rfl rfl (cell_two_at _ _ _ _ (by simp)) (by intro x hx; simp at hx; rcases hx with rfl | rfl <;> rfl) (by unfold maxLen; omega) (by omega) (by simp; omega) ?_; intro v' w4 hown' hgrow _; obtain ⟨A', cap', rfl⟩ := own_shape2 hown'; have HG4 := Hd hgrow; have HO4 := Hd hown'; have HW := Hd hown3; clear hgrow hown' hown3)
              have hb5 : Below w1.heap.size w1 ((w3.alloc (.cells #[.int .i64 K, .string ⟨T.toArray⟩] 70)).alloc (.cells #[.int .i64 K, .string ⟨T.toArray⟩] 70)) := ((HB.out.trans (HB3.out.mono hbs2)).alloc (by omega) _).alloc (by simp; omega) _
              have harr4 : w4.heap[w1.heap.size]? = some (.cells kindsArr 196 (0, 0)) := by
                obtain ⟨_, _, _, _, hbk⟩ := HG4.out
                rw [hbk w1.heap.size (by simp; omega) (fun e => by have := (HW.out.lt _ e.symm).1; omega), Below.heap_alloc _ _ _ (by simp; omega), Below.heap_alloc _ _ _ (by omega), HB3.out.block w1.heap.size hlt2]
                exact harr
              go_roundg (s.size - (k + n))
              case measure => omega
              case rel => exact ⟨k + n, done ++ [(K, T)], by omega, by go_num, by simp; omega, Aside.intro hT2.out, by rw [tokVals_add, List.length_append]; exact HO4.out, harr4, hb5.grown HG4.out (by have := hb5.size; omega) (fun q hq => by have := (HW.out.lt q hq).1; omega)⟩
            · have HC := Hd hC
              have hidx := kidx2
              clear hC
              go_wp2_with fail
              refine HC.out.mono ?_
              rintro e w3 ⟨rfl, hb3⟩
              have hown3 := (own_below hown hb3).alloc (.cells #[.int .i64 K, .string ⟨T.toArray⟩] 70)
              have HB3 := Hd hb3
              have hb3s := hb3.size
              clear hb3 hown hidx
              go_wp2_with (at_builtin; refine wpList_append_own _ rfl _ _ 45 rfl (w1.heap.size + 1) 70 i0 (.agg #[.int .i64 0, .string ⟨#[]⟩]) 2 24 Tryz.underlying45 hi hz0 hz1 hz2 rfl (by decide) _ _ _ rfl (hown3.alloc _) _ 1 1 [.int .i64 K, .string ⟨T.toArray⟩] rfl rfl (cell_two_at _ _ _ _ (by simp)) (by intro x hx; simp at hx; rcases hx with rfl | rfl <;> rfl) (by unfold maxLen; omega) (by omega) (by simp; omega) ?_; intro v' w4 hown' hgrow _; obtain ⟨A', cap', rfl⟩ := own_shape2 hown'; have HG4 := Hd hgrow; have HO4 := Hd hown'; have HW := Hd hown3; clear hgrow hown' hown3)
              have hb5 : Below w1.heap.size w1 ((w3.alloc (.cells #[.int .i64 K, .string ⟨T.toArray⟩] 70)).alloc (.cells #[.int .i64 K, .string ⟨T.toArray⟩] 70)) := ((HB.out.trans (HB3.out.mono hbs2)).alloc (by omega) _).alloc (by simp; omega) _
              have harr4 : w4.heap[w1.heap.size]? = some (.cells kindsArr 196 (0, 0)) := by
                obtain ⟨_, _, _, _, hbk⟩ := HG4.out
                rw [hbk w1.heap.size (by simp; omega) (fun e => by have := (HW.out.lt _ e.symm).1; omega), Below.heap_alloc _ _ _ (by simp; omega), Below.heap_alloc _ _ _ (by omega), HB3.out.block w1.heap.size hlt2]
                exact harr
              go_roundg (s.size - (k + n))
              case measure => omega
              case rel => exact ⟨k + n, done ++ [(K, T)], by omega, by go_num, by simp; omega, Aside.intro hT2.out, by rw [tokVals_add, List.length_append]; exact HO4.out, harr4, hb5.grown HG4.out (by have := hb5.size; omega) (fun q hq => by have := (HW.out.lt q hq).1; omega)⟩
            · have HC := Hd hC
              have hidx := kidx3
              clear hC
              go_wp2_with fail
              refine HC.out.mono ?_
              rintro e w3 ⟨rfl, hb3⟩
              have hown3 := (own_below hown hb3).alloc (.cells #[.int .i64 K, .string ⟨T.toArray⟩] 70)
              have HB3 := Hd hb3
              have hb3s := hb3.size
              clear hb3 hown hidx
              go_wp2_with (at_builtin; refine wpList_append_own _ rfl _ _ 45 rfl (w1.heap.size + 1) 70 i0 (.agg #[.int .i64 0, .string ⟨#[]⟩]) 2 24 Tryz.underlying45 hi hz0 hz1 hz2 rfl (by decide) _ _ _ rfl (hown3.alloc _) _ 1 1 [.int .i64 K, .string ⟨T.toArray⟩] rfl rfl (cell_two_at _ _ _ _ (by simp)) (by intro x hx; simp at hx; rcases hx with rfl | rfl <;> rfl) (by unfold maxLen; omega) (by omega) (by simp; omega) ?_; intro v' w4 hown' hgrow _; obtain ⟨A', cap', rfl⟩ := own_shape2 hown'; have HG4 := Hd hgrow; have HO4 := Hd hown'; have HW := Hd hown3; clear hgrow hown' hown3)
              have hb5 : Below w1.heap.size w1 ((w3.alloc (.cells #[.int .i64 K, .string ⟨T.toArray⟩] 70)).alloc (.cells #[.int .i64 K, .string ⟨T.toArray⟩] 70)) := ((HB.out.trans (HB3.out.mono hbs2)).alloc (by omega) _).alloc (by simp; omega) _
              have harr4 : w4.heap[w1.heap.size]? = some (.cells kindsArr 196 (0, 0)) := by
                obtain ⟨_, _, _, _, hbk⟩ := HG4.out
                rw [hbk w1.heap.size (by simp; omega) (fun e => by have := (HW.out.lt _ e.symm).1; omega), Below.heap_alloc _ _ _ (by simp; omega), Below.heap_alloc _ _ _ (by omega), HB3.out.block w1.heap.size hlt2]
                exact harr
              go_roundg (s.size - (k + n))
              case measure => omega
              case rel => exact ⟨k + n, done ++ [(K, T)], by omega, by go_num, by simp; omega, Aside.intro hT2.out, by rw [tokVals_add, List.length_append]; exact HO4.out, harr4, hb5.grown HG4.out (by have := hb5.size; omega) (fun q hq => by have := (HW.out.lt q hq).1; omega)⟩
   · have g0 : (0 : Int) < (g : Int) := by omega
     have hR2 := Hd (HR.out.gap HGE.out (by omega))
     clear hz HR
     go_wp2_with fail
     refine HG.out.mono ?_
     rintro e w2 ⟨rfl, hb2⟩
     have HO := Hd (own_below hown hb2)
     have HB2 := Hd hb2
     clear hb2 hown
     go_wp2_with fail
     go_roundg (gk - g)
     case measure => omega
     case rel => exact ⟨k + g, done, by omega, by go_num, by omega, Aside.intro hR2.out, HO.out, (HB2.out.block w1.heap.size hlt1).trans harr, HB.out.trans (HB2.out.mono hbs)⟩
end Go.Proofs.YtpkmbhnikilihaaGreatDoor
