/- The law LiteralNames is proved: for every input, where the arguments are together of bulk at most 1048576 the law answers true, and its arguments read behind it as they did. Condition: the listed package variables (seine/letters.shapes, the library's strconv.ErrRange, its table of powers and their like) hold what the program's text lays in them (the card ties that). -/
import Derived.Test.YtcfdfgbobnocnaaGreatDoorLtAwake
import Derived.Test.YtcfdfgbobnocnaaGreatDoorVVarsM
import Derived.Test.YtcfdfgbobnocnaaGreatDoorDfSameT
import Derived.Test.YtcfdfgbobnocnaaGreatDoorLtOpen
namespace Go.Proofs.YtcfdfgbobnocnaaGreatDoor.LLNames
open Go.RowKit

theorem addV_eq (out : List ByteArray) (s : ByteArray) : addV out s = addN out s := rfl
theorem fold_eq : ∀ (xs out : List ByteArray), xs.foldl addV out = xs.foldl addN out
  | [], _ => rfl
  | x :: xs, out => by rw [List.foldl_cons, List.foldl_cons, addV_eq, fold_eq xs]
theorem fold_at {xs : List ByteArray} {q : Nat} {s : ByteArray} (h : xs[q]? = some s) : (xs.take (q + 1)).foldl addN [] = addN ((xs.take q).foldl addN []) s := by
  rw [List.take_add_one, h, List.foldl_append]
  rfl
theorem fold_len : ∀ (xs out : List ByteArray), (xs.foldl addN out).length ≤ out.length + xs.length
  | [], _ => by simp
  | x :: xs, out => by
    have h := fold_len xs (addN out x)
    have : (addN out x).length ≤ out.length + 1 := by unfold addN; split <;> simp
    rw [List.foldl_cons, List.length_cons]
    omega
set_option maxRecDepth 100000 in
set_option maxHeartbeats 8000000 in
theorem walk (w : World) (S : SchT) (n : ByteArray) (l m : Int) (v : VT) (c0 c1 c2 : Value) (A3 A4 : Option Addr) (k3 k4 : Nat) (hw : Laid5 w) (hz : SlimS S) (hvz : sizeV v ≤ 1048576) (hn : n.size ≤ 9223372036854775807)
    (hS : TS w (fun b => b < w.heap.size) (encSch S) [c0, c1, c2]) (hV : TS w (fun b => b < w.heap.size) (encV v) [.int .i64 v.kd, .int .i64 v.nn, .string v.ss, .slice A3 v.ls.len k3, .slice A4 v.ms.len k4]) :
    Calls Tryz.prog 4 #[.agg #[c0, c1, c2], .agg #[.string n, .int .i64 l, .int .i64 m], .agg #[.int .i64 v.kd, .int .i64 v.nn, .string v.ss, .slice A3 v.ls.len k3, .slice A4 v.ms.len k4]] w fun e w' => e = .returned (.bool true) ∧ Below w.heap.size w w' := by
  obtain ⟨A, k, e, _⟩ := sch_cells hS
  injection e with e0 e
  injection e with e1 e
  injection e with e2 e
  subst e0 e1 e2
  obtain ⟨i0, hi, hz0, hz1, hz2⟩ := info_parts1 info_txt
  have HW := Lib.hid hw
  have HZ := Lib.hid hz
  have HVZ := Lib.hid (show sizeV v ≤ 1100000 by omega)
  have HS := Lib.hid hS
  have HV := Lib.hid hV
  have R1 := Lib.hid (fun (wx : World) (h : Below w.heap.size w wx) => right_gen S n l m v _ _ _ A3 A4 k3 k4 wx w.heap.size h.size (HW.out.below h) HZ.out HVZ.out hn (TS.low h HS.out) (TS.low h HV.out))
  have SP := Lib.hid (fun (wx : World) (h : Below w.heap.size w wx) => spots_gen S n l m false v _ _ _ A3 A4 k3 k4 wx w.heap.size h.size HZ.out HVZ.out hn (TS.low h HS.out) (TS.low h HV.out))
  have VA := Lib.hid (fun (hv : sizeV v ≤ 9000) (wx : World) (h : Below w.heap.size w wx) => vars_any v hv _ _ _ _ _ wx w.heap.size h.size (ts_vat (TS.low h HV.out)))
  have LG := Lib.hid (fun (wx : World) (h : Below w.heap.size w wx) => lightz_any S v hvz _ _ _ A3 A4 k3 k4 wx (TS.keep (fun b hx => ⟨Nat.lt_of_lt_of_le hx h.size, h.block b hx⟩) _ _ hS) (TS.keep (fun b hx => ⟨Nat.lt_of_lt_of_le hx h.size, h.block b hx⟩) _ _ hV))
  have HR := Lib.hid (fun h => right_vars (D := S.defs) (p := ⟨n, l, m, false, v⟩) h)
  clear hw hz hvz hS hV e
  go_enter Tryz.func4, Tryz.ntmps4
  go_upto_region 1 with fail
  have h0 : (((w.alloc (.cells #[.slice A S.defs.length k, .string S.query, .string S.mutation] 24)).alloc (.cells #[.string n, .int .i64 l, .int .i64 m] 26)).alloc (.cells #[.int .i64 v.kd, .int .i64 v.nn, .string v.ss, .slice A3 v.ls.len k3, .slice A4 v.ms.len k4] 30)).heap[w.heap.size]? = some (.cells #[.slice A S.defs.length k, .string S.query, .string S.mutation] 24 (0, 0)) := by
    rw [Below.heap_alloc _ _ _ (by simp; omega), Below.heap_alloc _ _ _ (by simp)]; exact heap_alloc_new _ _
  have h1 : (((w.alloc (.cells #[.slice A S.defs.length k, .string S.query, .string S.mutation] 24)).alloc (.cells #[.string n, .int .i64 l, .int .i64 m] 26)).alloc (.cells #[.int .i64 v.kd, .int .i64 v.nn, .string v.ss, .slice A3 v.ls.len k3, .slice A4 v.ms.len k4] 30)).heap[w.heap.size + 1]? = some (.cells #[.string n, .int .i64 l, .int .i64 m] 26 (0, 0)) := by
    rw [Below.heap_alloc _ _ _ (by simp)]; exact heap_two _ _ _
  have h2 : (((w.alloc (.cells #[.slice A S.defs.length k, .string S.query, .string S.mutation] 24)).alloc (.cells #[.string n, .int .i64 l, .int .i64 m] 26)).alloc (.cells #[.int .i64 v.kd, .int .i64 v.nn, .string v.ss, .slice A3 v.ls.len k3, .slice A4 v.ms.len k4] 30)).heap[w.heap.size + 1 + 1]? = some (.cells #[.int .i64 v.kd, .int .i64 v.nn, .string v.ss, .slice A3 v.ls.len k3, .slice A4 v.ms.len k4] 30 (0, 0)) := by
    have := heap_two (w.alloc (.cells #[.slice A S.defs.length k, .string S.query, .string S.mutation] 24)) (.cells #[.string n, .int .i64 l, .int .i64 m] 26) (.cells #[.int .i64 v.kd, .int .i64 v.nn, .string v.ss, .slice A3 v.ls.len k3, .slice A4 v.ms.len k4] 30)
    simpa using this
  have B1 := Lib.hid (show Below w.heap.size w (((w.alloc (.cells #[.slice A S.defs.length k, .string S.query, .string S.mutation] 24)).alloc (.cells #[.string n, .int .i64 l, .int .i64 m] 26)).alloc (.cells #[.int .i64 v.kd, .int .i64 v.nn, .string v.ss, .slice A3 v.ls.len k3, .slice A4 v.ms.len k4] 30)) from (two_below w _ _).alloc (by simp; omega) _)
  generalize ((w.alloc (.cells #[.slice A S.defs.length k, .string S.query, .string S.mutation] 24)).alloc (.cells #[.string n, .int .i64 l, .int .i64 m] 26)).alloc (.cells #[.int .i64 v.kd, .int .i64 v.nn, .string v.ss, .slice A3 v.ls.len k3, .slice A4 v.ms.len k4] 30) = w1 at h0 h1 h2 B1 ⊢
  generalize w.heap.size + 1 + 1 = gv at h2 ⊢
  generalize w.heap.size + 1 = gt at h1 ⊢
  have H0 := Lib.hid h0
  have H1 := Lib.hid h1
  have H2 := Lib.hid h2
  clear h0 h1 h2
  obtain ⟨y0, y1, y2⟩ := three_cells H0.out
  obtain ⟨z0, z1, z2, z3, z4⟩ := five_box H2.out
  go_wp2_with fail
  refine (LG.out _ B1.out).mono ?_
  rintro e w4 ⟨lt, rfl, hlt, hb⟩
  have HLT := Lib.hid hlt
  have B4 := Lib.hid (B1.out.trans (hb.mono B1.out.size))
  have I0 := Lib.hid ((hb.block _ (Array.getElem?_eq_some_iff.1 H0.out).1).trans H0.out)
  have I1 := Lib.hid ((hb.block _ (Array.getElem?_eq_some_iff.1 H1.out).1).trans H1.out)
  have I2 := Lib.hid ((hb.block _ (Array.getElem?_eq_some_iff.1 H2.out).1).trans H2.out)
  clear hb y0 y1 y2 z0 z1 z2 z3 z4 LG H0 H1 H2 B1 hlt
  cases lt
  · clear R1 SP VA HR
    go_wp2_with fail
    refine (awake_any w4 (HW.out.below B4.out)).mono ?_
    rintro e wa ⟨rfl, hba⟩
    have Ba := Lib.hid (B4.out.trans (hba.mono B4.out.size))
    clear hba
    go_wp2_with fail
    go_ret
    exact ⟨rfl, Ba.out⟩
  obtain ⟨y0, y1, y2⟩ := three_cells I0.out
  obtain ⟨x0, x1, x2⟩ := three_cells I1.out
  obtain ⟨z0, z1, z2, z3, z4⟩ := five_box I2.out
  have VA := Lib.hid (VA.out (by have := HLT.out rfl; omega))
  obtain ⟨rt, hrt⟩ : ∃ b, rightL S.defs ⟨n, l, m, false, v⟩ = b := ⟨_, rfl⟩
  rw [hrt] at R1 HR
  clear hrt HLT
  go_wp2_with fail
  refine (R1.out _ B4.out).mono ?_
  rintro e w5 ⟨rfl, hb⟩
  have B5 := Lib.hid (B4.out.trans (hb.mono B4.out.size))
  have J0 := Lib.hid ((hb.block _ (Array.getElem?_eq_some_iff.1 I0.out).1).trans I0.out)
  have J1 := Lib.hid ((hb.block _ (Array.getElem?_eq_some_iff.1 I1.out).1).trans I1.out)
  have J2 := Lib.hid ((hb.block _ (Array.getElem?_eq_some_iff.1 I2.out).1).trans I2.out)
  clear hb y0 y1 y2 x0 x1 x2 z0 z1 z2 z3 z4 R1 I0 I1 I2 B4
  cases rt
  · clear SP VA HR
    go_wp2_with fail
    refine (awake_any w5 (HW.out.below B5.out)).mono ?_
    rintro e wa ⟨rfl, hba⟩
    have Ba := Lib.hid (B5.out.trans (hba.mono B5.out.size))
    clear hba
    go_wp2_with fail
    go_ret
    exact ⟨rfl, Ba.out⟩
  have hvs : (spotsOf (allP S.defs ⟨n, l, m, false, v⟩)).map (·.v.ss) = allV v := HR.out rfl
  have hxl : (spotsOf (allP S.defs ⟨n, l, m, false, v⟩)).length ≤ 5500000 := by
    have h1 : (spotsOf (allP S.defs ⟨n, l, m, false, v⟩)).length ≤ (allP S.defs ⟨n, l, m, false, v⟩).length := List.length_filter_le ..
    have h2 : (allP S.defs ⟨n, l, m, false, v⟩).length ≤ 5 * szV v := allP_bd S.defs ⟨n, l, m, false, v⟩
    have h3 := sz_size v
    have h4 := HVZ.out
    omega
  generalize spotsOf (allP S.defs ⟨n, l, m, false, v⟩) = XS at SP hvs hxl
  clear HR
  have HVS := Lib.hid hvs
  clear hvs
  obtain ⟨y0, y1, y2⟩ := three_cells J0.out
  obtain ⟨x0, x1, x2⟩ := three_cells J1.out
  obtain ⟨z0, z1, z2, z3, z4⟩ := five_box J2.out
  go_wp2_with fail
  refine (SP.out _ B5.out).mono ?_
  rintro e w6 ⟨V, rfl, ⟨b, hbl, hrow⟩, hb⟩
  have B6 := Lib.hid (B5.out.trans (hb.mono B5.out.size))
  have K2 := Lib.hid ((hb.block _ (Array.getElem?_eq_some_iff.1 J2.out).1).trans J2.out)
  obtain ⟨As, cs, rfl, hsl, hcell⟩ := spot_row_at hrow
  have HC := Lib.hid hcell
  clear hb y0 y1 y2 x0 x1 x2 z0 z1 z2 z3 z4 SP J0 J1 J2 B5 hrow hbl hcell
  obtain ⟨z0, z1, z2, z3, z4⟩ := five_box K2.out
  go_wp2_with fail
  refine (VA.out _ B6.out).mono ?_
  rintro e w7 ⟨V, rfl, hrow, hb⟩
  have B7 := Lib.hid (B6.out.trans (hb.mono B6.out.size))
  have HN : Hid (SR w6.heap.size w7 V (varsV v [])) := Lib.hid hrow
  have HC7 : Hid (∀ (q : Nat) x, XS[q]? = some x → ∃ g o, As = some ⟨g, o, none⟩ ∧ g < w7.heap.size ∧ w7.cell? ⟨g, o + q * 5, none⟩ = some (.string x.v.ss)) := Lib.hid (fun q x hq => by
    obtain ⟨g, o, h1, h2, h3⟩ := HC.out q x hq
    exact ⟨g, o, h1, Nat.lt_of_lt_of_le h2 hb.size, (hb.cell (p := ⟨g, o + q * 5, none⟩) h2).trans (h3 0 _ rfl)⟩)
  obtain ⟨An, cn, rfl, hns⟩ := HN.out.strs
  clear hb z0 z1 z2 z3 z4 VA K2 B6 hrow HC hns
  have hfold : (XS.map (·.v.ss)).foldl addN [] = varsV v [] := by
    rw [HVS.out]
    exact (fold_eq _ _).symm
  have HFO := Lib.hid hfold
  have hll := fold_len (XS.map (·.v.ss)) []
  rw [hfold] at hll
  have hvl : (varsV v []).length ≤ 9223372036854775807 := by simp at hll; omega
  clear hfold hll HVS
  generalize varsV v [] = names at HN HFO hvl
  go_wp2_with fail
  go_loopg [9, 10] XS.length (fun g seen i wx => ∃ q : Nat, q + g = XS.length ∧ i = .int .i64 q ∧ Aside (SR w7.heap.size wx seen (((XS.map (·.v.ss)).take q).foldl addN []) ∧ Below w7.heap.size w7 wx))
  case atStart => exact ⟨0, by omega, rfl, Blk.Aside.intro ⟨⟨rfl, .inl ⟨rfl, rfl⟩⟩, Below.refl _ _⟩⟩
  case round =>
    obtain ⟨q, hq, rfl, HA⟩ := hrel
    have OX := Lib.hid HA.out.1
    have BX := Lib.hid HA.out.2
    clear HA
    obtain ⟨Ao, co, rfl, hso⟩ := OX.out.strs
    cases gk with
    | zero =>
      obtain rfl : q = XS.length := by omega
      rw [List.take_of_length_le (by simp), HFO.out] at hso
      have hno := (Blk.strs_of_own (HN.out.low BX.out)).2
      have ST := Lib.hid (stexts_yes Ao An names.length co cn names _ hvl hso hno)
      have el : (((XS.map (·.v.ss)).take XS.length).foldl addN []).length = names.length := by rw [List.take_of_length_le (by simp), HFO.out]
      rw [el]
      clear hso hno el OX
      go_wp2_with fail
      refine ST.out.mono ?_
      rintro e w8 ⟨rfl, hb⟩
      have B8 := Lib.hid ((B7.out.trans (BX.out.mono B7.out.size)).trans (hb.mono (Nat.le_trans B7.out.size BX.out.size)))
      clear hb BX B7 ST HN HC7
      go_wp2_with fail
      refine (awake_any w8 (HW.out.below B8.out)).mono ?_
      rintro e wa ⟨rfl, hba⟩
      have Ba := Lib.hid (B8.out.trans (hba.mono B8.out.size))
      clear hba
      go_wp2_with fail
      go_ret
      exact ⟨rfl, Ba.out⟩
    | succ g =>
      have hqn : q < XS.length := by omega
      have hqn' : (q : Int) < (XS.length : Int) := by omega
      obtain ⟨x, hx⟩ : ∃ x, XS[q]? = some x := ⟨_, List.getElem?_eq_getElem hqn⟩
      have hxs : (XS.map (·.v.ss))[q]? = some x.v.ss := by rw [List.getElem?_map, hx]; rfl
      have hN := Lib.hid (fold_at hxs)
      have hlen := fold_len ((XS.map (·.v.ss)).take q) []
      have hlen' : (((XS.map (·.v.ss)).take q).foldl addN []).length ≤ q := by simp at hlen; omega
      obtain ⟨gb, go, rfl, hgl, hgc⟩ := HC7.out q x hx
      generalize x.v.ss = s at hgc hN
      generalize ((XS.map (·.v.ss)).take q).foldl addN [] = out at OX hso hN hlen'
      have HGL := Lib.hid hgl
      have HGC := Lib.hid hgc
      have y0 := (BX.out.cell (p := ⟨gb, go + q * 5, none⟩) hgl).trans hgc
      have HS1 := Lib.hid (rhas_any Ao out.length co out s wr (by omega) hso)
      cases hh : hasN out s
      case true =>
        have hbe : Hid (((XS.map (·.v.ss)).take (q + 1)).foldl addN [] = out) := Lib.hid (hN.out.trans (by rw [addN, if_pos hh]))
        rw [hh] at HS1
        clear hh hso hlen hxs hx hgc hgl
        go_wp2_with fail
        refine HS1.out.mono ?_
        rintro e w8 ⟨rfl, hb⟩
        have O8 := Lib.hid (OX.out.low hb)
        have B8 := Lib.hid (BX.out.trans (hb.mono BX.out.size))
        clear hb y0 OX HS1
        go_wp2_with fail
        go_roundg g
        case measure => omega
        case rel => exact ⟨q + 1, by omega, by go_num, Blk.Aside.intro ⟨by rw [hbe.out]; exact O8.out, B8.out⟩⟩
      case false =>
        have hbe : Hid (((XS.map (·.v.ss)).take (q + 1)).foldl addN [] = out ++ [s]) := Lib.hid (hN.out.trans (by rw [addN, if_neg (by rw [hh]; decide)]))
        rw [hh] at HS1
        clear hh hso hlen hxs hx hgc hgl
        go_wp2_with fail
        refine HS1.out.mono ?_
        rintro e w8 ⟨rfl, hb⟩
        have O8 := Lib.hid (OX.out.low hb)
        have B8 := Lib.hid (BX.out.trans (hb.mono BX.out.size))
        clear hb y0 OX HS1
        have y0 := (B8.out.cell (p := ⟨gb, go + q * 5, none⟩) HGL.out).trans HGC.out
        have O9 := Lib.hid (O8.out.low (dbelow_new w8 (.cells #[.string s] 9)))
        have B9 := Lib.hid (B8.out.trans ((dbelow_new w8 (.cells #[.string s] 9)).mono B8.out.size))
        have hl9 : w7.heap.size ≤ (World.alloc w8 (.cells #[.string s] 9)).heap.size := B9.out.size
        go_wp2_with (at_builtin; refine wpList_append_lies _ rfl _ _ 38 rfl (w7.heap.size) 9 i0 (.string ⟨#[]⟩) 1 16 Tryz.underlying38 hi hz0 hz1 hz2 rfl (by decide) _ out.length (out.map .string) rfl O9.out _ 1 1 [.string s] rfl rfl (fun j u hj => World.news_of_block (heap_alloc_new _ _) j u hj) (by intro y hy; simp at hy; rcases hy with rfl <;> rfl) (by decide) (by unfold maxLen; omega) (by omega) hl9 _ rfl ?_; intro gg cap2 w10 hown4 hgrow hat hlt4; have HG4 := Lib.hid hgrow; have HO4 := Lib.hid hown4; clear hgrow hown4 hat)
        have B10 := Lib.hid (below_grown (B := w7.heap.size) B9.out HG4.out B9.out.size (fun b hb => O9.out.own b hb))
        go_roundg g
        case measure => omega
        case rel => exact ⟨q + 1, by omega, by go_num, Blk.Aside.intro ⟨by rw [hbe.out]; unfold SR; rw [List.length_append, List.map_append]; exact HO4.out, B10.out⟩⟩
end Go.Proofs.YtcfdfgbobnocnaaGreatDoor.LLNames
namespace Go.Proofs.YtcfdfgbobnocnaaGreatDoor.LLNames
open Go.ChangeShapes Go.WideShapes Go.ChangeAt Go.RowKit

set_option maxRecDepth 100000 in
theorem contract (H : Type) (enc : TypeId × Value → H) (W : World) (base : Nat) (args : Array Value) (ds gs : List (DataW H)) (before : List MemPlace)
    (hval : ∀ (j : Nat) t v, Tryz.f4.params[j]? = some t → args[j]? = some v → Value.okWide Tryz.prog W .any base t v)
    (hW : DataW.Whole enc Tryz.prog Tryz.f4.params.toList Rows.literalNamesSpec.vars false W args.toList ds gs before) (hL : laidMetH Tryz.prog Rows.literalNamesUptoRow.laid W)
    (hz : (DataW.weightsEach Tryz.prog (Tryz.f4.params.toList ++ (Rows.OpenSpec.upto Rows.literalNamesSpec).bare.plain.varTypes Tryz.prog) (ds ++ gs)).all (· ≤ reachBytes) = true) (hk : Rows.uptoBulkAll (ds ++ gs) ≤ 1048576) :
    Calls Tryz.prog 4 args W fun e W' => ∃ v, e = .returned v ∧ Rows.literalNamesSpec.post enc Tryz.prog Tryz.f4 false true false false W args v W' := by
  have hW' := hW
  obtain ⟨p, q, hA0, hV, rfl, hfz, hnd⟩ := hW
  have hA : DataW.TrodAll enc Tryz.prog W 0 (fun _ => true) true Tryz.f4.params.toList args.toList ds p := hA0
  rw [Tryz.params4] at hA hval
  obtain ⟨a0, vs0, d0, ds0, p0, q0, hargs, rfl, rfl, h0, e0⟩ := trodAll_cons hA
  obtain ⟨a1, vs1, d1, ds1, p1, q1, rfl, rfl, rfl, h1, e1⟩ := trodAll_cons e0
  obtain ⟨a2, vs2, d2, ds2, p2, q2, rfl, rfl, rfl, h2, e2⟩ := trodAll_cons e1
  obtain ⟨rfl, rfl, rfl⟩ := trodAll_nil e2
  obtain rfl : args = #[a0, a1, a2] := by cases args; simp_all
  obtain ⟨rfl, rfl⟩ := trodVars_none hV
  have zz0 : ∀ m ∈ d0.weights Tryz.prog 24, m ≤ reachBytes := fun m hm => by have := List.all_eq_true.1 hz m (DataW.weights_mem_each (j := 0) rfl rfl m hm); simpa using this
  obtain ⟨S0, c00, c01, c02, rfl, hS0, hz0⟩ := open_schemaD (hval 0 24 a0 rfl rfl) h0
  obtain ⟨n1, l1, m1, rfl, hn1⟩ := open_tyA (hval 1 26 a1 rfl rfl) h1
  obtain ⟨t2, _, _, _, _, _, rfl, v2, r2, y2, s2⟩ := open_val (hval 2 30 a2 rfl rfl) h2
  have z2 := Nat.le_trans y2 (Nat.le_trans (bulk_part (by simp)) hk)
  obtain ⟨A3, k3, A4, k4, rfl, rfl, rfl, rfl, rfl, hT2⟩ := vat_ts v2
  clear hA0
  refine (walk W S0 n1 l1 m1 t2 c00 c01 c02 A3 A4 k3 k4 (laid5_of hL) (hz0 zz0).1 (by omega) hn1 hS0 hT2).mono fun e W' ⟨he, hb⟩ => ?_
  subst he
  exact ⟨_, rfl, law_post hW' rfl (by kernel_rfl) (by rw [Tryz.params4]; decide +kernel) rfl rfl rfl hb⟩

theorem laid_met (os : Os) : laidMet Tryz.prog Rows.literalNamesUptoRow.laid ((laidWorld os).forCall (fun _ _ => 0) ⟨#[], #[.agg #[.slice none 0 0, .string ⟨#[]⟩, .string ⟨#[]⟩], .agg #[.string ⟨#[]⟩, .int .i64 0, .int .i64 0], .agg #[.int .i64 0, .int .i64 0, .string ⟨#[]⟩, .slice none 0 0, .slice none 0 0]], []⟩).memory :=
  laidWorld_met os _
theorem reads (os : Os) {H : Type} (enc : TypeId × Value → H) : ∃ places, DataW.whole enc Tryz.prog ((laidWorld os).forCall (fun _ _ => 0) ⟨#[], #[.agg #[.slice none 0 0, .string ⟨#[]⟩, .string ⟨#[]⟩], .agg #[.string ⟨#[]⟩, .int .i64 0, .int .i64 0], .agg #[.int .i64 0, .int .i64 0, .string ⟨#[]⟩, .slice none 0 0, .slice none 0 0]], []⟩).memory Tryz.f4.params.toList Rows.literalNamesSpec.vars false #[Value.agg #[.slice none 0 0, .string ⟨#[]⟩, .string ⟨#[]⟩], .agg #[.string ⟨#[]⟩, .int .i64 0, .int .i64 0], .agg #[.int .i64 0, .int .i64 0, .string ⟨#[]⟩, .slice none 0 0, .slice none 0 0]].toList 8 = some ([.agg [.nil, .lit (.string []), .lit (.string [])], .agg [.lit (.string []), .lit (.int .i64 0), .lit (.int .i64 0)], .agg [.lit (.int .i64 0), .lit (.int .i64 0), .lit (.string []), .nil, .nil]], [], places) :=
  ⟨[], by kernel_rfl⟩

set_option maxRecDepth 100000 in
theorem lifted (os : Os) (started : os.Started) (H : Type) (enc : TypeId × Value → H) (F : Stop.Interp) :
    ReturnsInHanded {} Tryz.checked os 4 .any ((Rows.OpenSpec.upto Rows.literalNamesSpec).preRow enc Tryz.prog Tryz.f4 Rows.literalNamesUptoRow.domain false Rows.literalNamesUptoRow.laid) (((Rows.OpenSpec.upto Rows.literalNamesSpec).at F).post enc Tryz.prog Tryz.f4 false true false false) := by
  obtain ⟨places, hx⟩ := reads os enc
  refine returnsInHanded_of_row (C := Tryz.checked) (s := (Rows.OpenSpec.upto Rows.literalNamesSpec)) own started (by kernel_rfl) Tryz.func4
    (witness_row_at (enc := enc) (C := Tryz.checked) false (laidWorld os) #[.agg #[.slice none 0 0, .string ⟨#[]⟩, .string ⟨#[]⟩], .agg #[.string ⟨#[]⟩, .int .i64 0, .int .i64 0], .agg #[.int .i64 0, .int .i64 0, .string ⟨#[]⟩, .slice none 0 0, .slice none 0 0]] (World.laidAll_os _ _ _) (by kernel_rfl) (by kernel_rfl) (by kernel_rfl)
      (OpenSpec.preRow_of_cond 8 hx (by kernel_rfl) (fun k hk => by cases hk; kernel_rfl) (by kernel_rfl) (laid_met os))) ?_
  intro W base args ds gs before hval hW _ hcond hz hL _ _
  have hb : Rows.uptoBulkAll (ds ++ gs) ≤ 1048576 := of_decide_eq_true (hcond _ rfl)
  exact contract H enc W base args ds gs before hval hW hL hz hb

theorem said : Rows.LiteralNamesUptoSaid :=
  OpenClaim.holds_of_cond 4 Tryz.f4 rfl rfl rfl rfl rfl rfl rfl ⟨rfl, rfl, rfl, rfl, rfl⟩ rfl rfl rfl rfl rfl (by kernel_rfl) Tryz.func4 (by kernel_rfl)
    (of_decide_eq_true (by kernel_rfl)) (by unfold Func.isWrapper; first | (rw [if_pos (by decide +kernel)]; kernel_rfl) | (rw [if_neg (by decide +kernel)]; exact ⟨rfl, rfl⟩))
    (fun os started H enc _ F => by rw [OpenClaim.pre_eq_preRow]; exact lifted os started H enc F)

theorem plain (f : FuncId) (fn : Func) (hf : Tryz.pinned.checked.prog.funcNamed "seine/seinelaw10.LiteralNames" = some f) (hfn : Tryz.pinned.checked.prog.funcs[f]? = some fn) :
    true = Tryz.pinned.checked.prog.looks [] ∧ ∀ (j : Nat) t, fn.params[j]? = some t → Tryz.pinned.checked.prog.wantsStandIn t = false := by
  obtain rfl : f = 4 := Option.some.inj ((show Tryz.prog.funcNamed "seine/seinelaw10.LiteralNames" = some 4 by kernel_rfl).symm.trans hf) |>.symm
  obtain rfl : fn = Tryz.f4 := (Option.some.inj (Tryz.func4.symm.trans hfn)).symm
  refine ⟨by kernel_rfl, fun j t ht => ?_⟩
  rw [Tryz.params4] at ht
  have hall : ∀ t ∈ [24, 26, 30], Tryz.prog.wantsStandIn t = false := by decide +kernel
  exact hall t (by simpa using Array.mem_of_getElem? ht)

theorem card : Rows.LiteralNamesUptoCardSaid :=
  Claim7.holds_tied_plain_at .later [] _ _ _ _ said (fun _ h => by cases h) (by kernel_rfl) (fun _ h => by cases h) literalNamesUpto_row_tie rfl ⟨rfl, rfl⟩ (by kernel_rfl) rfl plain (by kernel_rfl)
end Go.Proofs.YtcfdfgbobnocnaaGreatDoor.LLNames
