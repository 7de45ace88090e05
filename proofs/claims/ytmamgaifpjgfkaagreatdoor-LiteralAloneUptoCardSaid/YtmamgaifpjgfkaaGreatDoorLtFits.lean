/- literal's fits. (gen_fits.py wrote it.) -/
import Derived.Test.YtmamgaifpjgfkaaGreatDoorLtNamed
import Derived.Test.YtmamgaifpjgfkaaGreatDoorLtMay
namespace Go.Proofs.YtmamgaifpjgfkaaGreatDoor
open Go.RowKit

def fitsB (D : List DefnT) (n : ByteArray) (l m : Int) (v : VT) : Bool :=
  if rightT n.data.toList l m = true then (
    if (v.kd == 8) = true then true else
    if (v.kd == 0) = true then !isB n.data.toList l m else
    if itemB n l m = true then (if (v.kd == 6) = true then mayB n (l - 1) (m / 2) v.ls.list else true) else namedB D n v) else false
set_option maxRecDepth 100000 in
set_option maxHeartbeats 8000000 in
theorem fits_any (S : SchT) (n : ByteArray) (l m : Int) (hs : Bool) (v : VT) (c0 c1 c2 : Value) (A3 A4 : Option Addr) (k3 k4 : Nat) (w : World) (B M : Nat) (X : Nat → Prop) (KS : List ByteArray) (hB : B ≤ M) (hX : ∀ b, X b → b < w.heap.size) (hXM : X M) (hXB : ∀ b, b < B → ¬ X b) (hK : n ∈ KS) (hKS : KS.length ≤ maxLen) (hn : n.size ≤ maxLen) (hz : SlimS S) (hvz : v.ms.len * 120 ≤ 140737488355328) (hvl : v.ls.len * 80 ≤ 140737488355328)
    (hS : TS w (fun b => b < B) (encSch S) [c0, c1, c2]) (hV : TS w (fun b => b < B) (encV v) [.int .i64 v.kd, .int .i64 v.nn, .string v.ss, .slice A3 v.ls.len k3, .slice A4 v.ms.len k4]) (hO : MOK S.defs X KS M w) :
    Calls Tryz.prog 39 #[.agg #[c0, c1, c2, .map (some M)], .agg #[.string n, .int .i64 l, .int .i64 m, .bool hs, .int .i64 v.kd, .int .i64 v.nn, .string v.ss, .slice A3 v.ls.len k3, .slice A4 v.ms.len k4]] w (BoolC (fitsB S.defs n l m v) S.defs X KS M w) := by
  have hMl := hO.lt
  have hBw : B ≤ w.heap.size := by omega
  have hn' : n.size ≤ 9223372036854775807 := by unfold maxLen at hn; omega
  have NA := Lib.hid (fun (wx : World) (hb : Below w.heap.size w wx) => named_any S n v c0 c1 c2 A3 A4 k3 k4 wx B M X KS hB (fun b h => Nat.lt_of_lt_of_le (hX b h) hb.size) hXM hXB hK hKS hn hz hvz (TS.low (hb.mono hBw) hS) (TS.low (hb.mono hBw) hV) (hO.low hb))
  have IT := Lib.hid (fun (wx : World) => item_any n l m wx hn')
  have RT := Lib.hid (fun (wx : World) => wright_any n l m wx hn')
  have IS := Lib.hid (fun (wx : World) => wis_any n l m wx hn')
  rw [itemV_eq] at IT
  obtain ⟨A, k, e, _⟩ := sch_cells hS
  injection e with e0 e
  injection e with e1 e
  injection e with e2 e
  subst e0 e1 e2
  obtain ⟨E3, j3, E4, j4, e, hss, ⟨hll, hL⟩, hml, hM⟩ := encv_cells hV
  simp only [List.cons.injEq, Value.slice.injEq, and_true, true_and] at e
  obtain ⟨⟨rfl, rfl⟩, rfl, rfl⟩ := e
  have MB := Lib.hid (fun (wx : World) (hb : Below w.heap.size w wx) => maybe_any n (l - 1) (m / 2) v.ls.list A3 k3 wx B hn' (Nat.le_trans hBw hb.size) (by rw [VL.list_len]; exact hll) (by rw [← encL_list]; exact RowT.below (hb.mono hBw) hL))
  rw [VL.list_len] at MB
  have HO := Lib.hid hO
  have N0 := Lib.hid (NB.start w (.cells #[.slice A S.defs.length k, .string S.query, .string S.mutation, .map (some M)] 62) (.cells #[.string n, .int .i64 l, .int .i64 m, .bool hs, .int .i64 v.kd, .int .i64 v.nn, .string v.ss, .slice A3 v.ls.len k3, .slice A4 v.ms.len k4] 66))
  obtain ⟨r, hr⟩ : ∃ r, fitsB S.defs n l m v = r := ⟨_, rfl⟩
  rw [hr]
  have he := hr.symm
  unfold fitsB at he
  have HE := Lib.hid he
  clear he hr hS hz hV hO hL hll hml hM hX hXM hXB hK hKS hn hn' hvz hvl
  obtain ⟨bi, gi⟩ : ∃ b, itemB n l m = b := ⟨_, rfl⟩
  obtain ⟨br, gr⟩ : ∃ b, rightT n.data.toList l m = b := ⟨_, rfl⟩
  obtain ⟨b8, g8⟩ : ∃ b, (v.kd == 8) = b := ⟨_, rfl⟩
  obtain ⟨b0, g0⟩ : ∃ b, (v.kd == 0) = b := ⟨_, rfl⟩
  obtain ⟨b6, g6⟩ : ∃ b, (v.kd == 6) = b := ⟨_, rfl⟩
  have hbr : Hid (bi = true → br = true) := Lib.hid (fun h => by
    unfold itemB at gi
    rw [gr, h, Bool.and_eq_true] at gi
    exact gi.1)
  rw [gi] at IT
  rw [gr] at RT
  rw [gr, g8, g0, gi, g6] at HE
  generalize isB n.data.toList l m = ib at IS HE
  generalize namedB S.defs n v = nb at NA HE
  generalize mayB n (l - 1) (m / 2) v.ls.list = mb at MB HE
  clear gi gr
  cases bi
  case false =>
    rw [if_neg (by simp)] at IT
    unfold noT at IT
    go_enter Tryz.func39, Tryz.ntmps39
    go_upto_region 1 with fail
    generalize (w.alloc (.cells #[.slice A S.defs.length k, .string S.query, .string S.mutation, .map (some M)] 62)).alloc (.cells #[.string n, .int .i64 l, .int .i64 m, .bool hs, .int .i64 v.kd, .int .i64 v.nn, .string v.ss, .slice A3 v.ls.len k3, .slice A4 v.ms.len k4] 66) = w1 at N0 ⊢
    obtain ⟨⟨y0, y1, y2, y3, y4, y5, y6, y7, y8⟩, _⟩ := nine_cells N0.out.b1
    go_wp2_with fail
    refine (IT.out _).mono ?_
    rintro e w2 ⟨rfl, hb2⟩
    have N2 := Lib.hid (N0.out.next hb2)
    clear hb2 y0 y1 y2 y3 y4 y5 y6 y7 y8 N0
    go_upto_region 2 with fail
    have N3 := Lib.hid (N2.out.next (dbelow_new w2 (.cells #[.string ⟨#[]⟩, .int .i64 0, .int .i64 0] 26)))
    have I3 := heap_alloc_new w2 (.cells #[.string ⟨#[]⟩, .int .i64 0, .int .i64 0] 26)
    generalize w2.alloc (.cells #[.string ⟨#[]⟩, .int .i64 0, .int .i64 0] 26) = w3 at N3 I3 ⊢
    generalize w2.heap.size = g2 at I3 ⊢
    clear N2
    obtain ⟨⟨y0, y1, y2, y3, y4, y5, y6, y7, y8⟩, _⟩ := nine_cells N3.out.b1
    go_wp2_with fail
    refine (RT.out _).mono ?_
    rintro e w4 ⟨rfl, hb4⟩
    have N4 := Lib.hid (N3.out.next hb4)
    have I4 := (hb4.block g2 (Array.getElem?_eq_some_iff.1 I3).1).trans I3
    clear hb4 y0 y1 y2 y3 y4 y5 y6 y7 y8 N3 I3
    obtain ⟨⟨y0, y1, y2, y3, y4, y5, y6, y7, y8⟩, _⟩ := nine_cells N4.out.b1
    obtain ⟨x0, x1, x2, x3⟩ := four_cells N4.out.b0
    obtain ⟨i0, i1, i2⟩ := three_cells I4
    cases br
    case false =>
      rw [if_neg (by simp)] at HE
      go_wp2_with fail
      go_ret
      exact ⟨by rw [HE.out]; rfl, MoX.of_below N4.out.low, HO.out.low N4.out.low⟩
    rw [if_pos (by simp)] at HE
    cases b8
    case true =>
      rw [if_pos (by simp)] at HE
      go_wp2_with fail
      go_ret
      exact ⟨by rw [HE.out]; rfl, MoX.of_below N4.out.low, HO.out.low N4.out.low⟩
    rw [if_neg (by simp)] at HE
    cases b0
    case true =>
      rw [if_pos (by simp)] at HE
      go_wp2_with fail
      refine (IS.out _).mono ?_
      rintro e w5 ⟨rfl, hb5⟩
      have N5 := Lib.hid (N4.out.next hb5)
      clear hb5
      go_wp2_with fail
      go_ret
      exact ⟨by rw [HE.out]; rfl, MoX.of_below N5.out.low, HO.out.low N5.out.low⟩
    rw [if_neg (by simp)] at HE
    rw [if_neg (by simp)] at HE
    go_wp2_with fail
    refine (NA.out _ N4.out.low).mono ?_
    rintro e w5 ⟨rfl, hm5, ho5⟩
    have M5 := Lib.hid ((MoX.of_below N4.out.low).trans hm5)
    have O5 := Lib.hid ho5
    clear hm5 ho5
    go_wp2_with fail
    go_ret
    exact ⟨by rw [HE.out]; rfl, M5.out, O5.out⟩
  case true =>
    rw [if_pos (by simp)] at IT
    unfold yesT at IT
    go_enter Tryz.func39, Tryz.ntmps39
    go_upto_region 1 with fail
    generalize (w.alloc (.cells #[.slice A S.defs.length k, .string S.query, .string S.mutation, .map (some M)] 62)).alloc (.cells #[.string n, .int .i64 l, .int .i64 m, .bool hs, .int .i64 v.kd, .int .i64 v.nn, .string v.ss, .slice A3 v.ls.len k3, .slice A4 v.ms.len k4] 66) = w1 at N0 ⊢
    obtain ⟨⟨y0, y1, y2, y3, y4, y5, y6, y7, y8⟩, _⟩ := nine_cells N0.out.b1
    go_wp2_with fail
    refine (IT.out _).mono ?_
    rintro e w2 ⟨rfl, hb2⟩
    have N2 := Lib.hid (N0.out.next hb2)
    clear hb2 y0 y1 y2 y3 y4 y5 y6 y7 y8 N0
    go_upto_region 2 with fail
    have N3 := Lib.hid (N2.out.next (dbelow_new w2 (.cells #[.string n, .int .i64 (l - 1), .int .i64 (m / 2)] 26)))
    have I3 := heap_alloc_new w2 (.cells #[.string n, .int .i64 (l - 1), .int .i64 (m / 2)] 26)
    generalize w2.alloc (.cells #[.string n, .int .i64 (l - 1), .int .i64 (m / 2)] 26) = w3 at N3 I3 ⊢
    generalize w2.heap.size = g2 at I3 ⊢
    clear N2
    obtain ⟨⟨y0, y1, y2, y3, y4, y5, y6, y7, y8⟩, _⟩ := nine_cells N3.out.b1
    go_wp2_with fail
    refine (RT.out _).mono ?_
    rintro e w4 ⟨rfl, hb4⟩
    have N4 := Lib.hid (N3.out.next hb4)
    have I4 := (hb4.block g2 (Array.getElem?_eq_some_iff.1 I3).1).trans I3
    clear hb4 y0 y1 y2 y3 y4 y5 y6 y7 y8 N3 I3
    obtain ⟨⟨y0, y1, y2, y3, y4, y5, y6, y7, y8⟩, _⟩ := nine_cells N4.out.b1
    obtain ⟨x0, x1, x2, x3⟩ := four_cells N4.out.b0
    obtain ⟨i0, i1, i2⟩ := three_cells I4
    obtain rfl : br = true := hbr.out (by simp)
    rw [if_pos (by simp)] at HE
    cases b8
    case true =>
      rw [if_pos (by simp)] at HE
      go_wp2_with fail
      go_ret
      exact ⟨by rw [HE.out]; rfl, MoX.of_below N4.out.low, HO.out.low N4.out.low⟩
    rw [if_neg (by simp)] at HE
    cases b0
    case true =>
      rw [if_pos (by simp)] at HE
      go_wp2_with fail
      refine (IS.out _).mono ?_
      rintro e w5 ⟨rfl, hb5⟩
      have N5 := Lib.hid (N4.out.next hb5)
      clear hb5
      go_wp2_with fail
      go_ret
      exact ⟨by rw [HE.out]; rfl, MoX.of_below N5.out.low, HO.out.low N5.out.low⟩
    rw [if_neg (by simp)] at HE
    rw [if_pos (by simp)] at HE
    cases b6
    case false =>
      rw [if_neg (by simp)] at HE
      go_wp2_with fail
      go_ret
      exact ⟨by rw [HE.out]; rfl, MoX.of_below N4.out.low, HO.out.low N4.out.low⟩
    rw [if_pos (by simp)] at HE
    go_wp2_with fail
    refine (MB.out _ N4.out.low).mono ?_
    rintro e w5 ⟨rfl, hb5⟩
    have N5 := Lib.hid (N4.out.next hb5)
    clear hb5
    go_wp2_with fail
    go_ret
    exact ⟨by rw [HE.out]; rfl, MoX.of_below N5.out.low, HO.out.low N5.out.low⟩
end Go.Proofs.YtmamgaifpjgfkaaGreatDoor
