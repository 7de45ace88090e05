/- The walk of the law ValueSames. -/
import Derived.Test.YtcdcfhplkimecaaDoorVPair
import Derived.Deep.RegionHeld3
import Derived.Test.YtcdcfhplkimecaaDoorVFrame
namespace Go.Proofs.YtcdcfhplkimecaaDoor.LVSames
open Go.RowKit

set_option maxRecDepth 100000 in
set_option maxHeartbeats 8000000 in
theorem law (a b : VT) (c0 c1 c2 c3 c4 d0 d1 d2 d3 d4 : Value) (w : World) (ha : VAt w w.heap.size a c0 c1 c2 c3 c4) (hb : VAt w w.heap.size b d0 d1 d2 d3 d4) (hsl : SlimV a) (hw : Laid5 w) :
    Calls Tryd.prog 4 #[.agg #[c0, c1, c2, c3, c4], .agg #[d0, d1, d2, d3, d4]] w fun e w' => e = .returned (.bool true) ∧ Below w.heap.size w w' := by
  have K0 := Lib.hid (KY.start w _ _ _ _ _ _ _ _ _ _ a b ha hb hw)
  have HSL := Lib.hid hsl
  obtain ⟨x, hx⟩ : ∃ x, samB a b = x := ⟨_, rfl⟩
  have hx' : samB b a = x := by rw [samB_comm]; exact hx
  have hxx := samB_self a
  obtain ⟨na, hna⟩ : ∃ n, W64 (sizeV a) = n := ⟨_, rfl⟩
  obtain ⟨nb, hnb⟩ : ∃ n, W64 (sizeV b) = n := ⟨_, rfl⟩
  obtain ⟨ak, an, sa, al, am⟩ := a
  obtain ⟨bk, bn, sb, bl, bm⟩ := b
  unfold VAt at ha hb
  obtain ⟨rfl, rfl, rfl, _, ⟨A3, c3', rfl, _, _⟩, A4, c4', rfl, _, _⟩ := ha
  obtain ⟨rfl, rfl, rfl, _, ⟨A5, c5', rfl, _, _⟩, A6, c6', rfl, _, _⟩ := hb
  have S1 := fun wx (h : LiveV wx (.agg #[.int .i64 ak, .int .i64 an, .string sa, .slice A3 al.len c3', .slice A4 am.len c4']) (.mk ak an sa al am)) => Lib.hid (by have h := live_size h; rw [hna] at h; exact h)
  have S2 := fun wx (h : LiveV wx (.agg #[.int .i64 bk, .int .i64 bn, .string sb, .slice A5 bl.len c5', .slice A6 bm.len c6']) (.mk bk bn sb bl bm)) => Lib.hid (by have h := live_size h; rw [hnb] at h; exact h)
  clear hw hsl hna hnb
  generalize VT.mk ak an sa al am = a at *
  generalize VT.mk bk bn sb bl bm = b at *
  by_cases h1 : na > 2000
  · go_enter Tryd.func4, Tryd.ntmps4
    go_wp2_with fail
    refine (S1 _ K0.out.2.2.1).out.mono ?_
    rintro e w2 ⟨rfl, hb2⟩
    have K2 := Lib.hid (K0.out.next hb2)
    clear hb2
    go_wp2_with fail
    refine K2.out.awake.mono ?_
    rintro e w3 ⟨rfl, hb3⟩
    have B3 := Lib.hid (two_below K2.out.below hb3)
    clear hb3
    go_wp2_with fail
    go_ret
    exact ⟨rfl, B3.out⟩
  · by_cases h2 : nb > 2000
    · go_enter Tryd.func4, Tryd.ntmps4
      go_wp2_with fail
      refine (S1 _ K0.out.2.2.1).out.mono ?_
      rintro e w2 ⟨rfl, hb2⟩
      have K2 := Lib.hid (K0.out.next hb2)
      obtain ⟨_, ⟨g0, g1, g2, g3, g4⟩, _⟩ := K2.out
      clear hb2
      go_wp2_with fail
      refine (S2 _ K2.out.2.2.2.1).out.mono ?_
      rintro e w3 ⟨rfl, hb3⟩
      have K3 := Lib.hid (K2.out.next hb3)
      clear hb3 g0 g1 g2 g3 g4
      go_wp2_with fail
      refine K3.out.awake.mono ?_
      rintro e w4 ⟨rfl, hb4⟩
      have B4 := Lib.hid (two_below K3.out.below hb4)
      clear hb4
      go_wp2_with fail
      go_ret
      exact ⟨rfl, B4.out⟩
    · go_enter Tryd.func4, Tryd.ntmps4
      go_wp2_with fail
      refine (S1 _ K0.out.2.2.1).out.mono ?_
      rintro e w2 ⟨rfl, hb2⟩
      have K2 := Lib.hid (K0.out.next hb2)
      obtain ⟨_, ⟨g0, g1, g2, g3, g4⟩, _⟩ := K2.out
      clear hb2
      go_wp2_with fail
      refine (S2 _ K2.out.2.2.2.1).out.mono ?_
      rintro e w3 ⟨rfl, hb3⟩
      have K3 := Lib.hid (K2.out.next hb3)
      clear hb3 g0 g1 g2 g3 g4 S1 S2 K0 K2
      go_wp2_with fail
      go_region_held3 (fun W => W.cell? ⟨w.heap.size, 0, none⟩ = some (.int .i64 ak) ∧ W.cell? ⟨w.heap.size, 1, none⟩ = some (.int .i64 an) ∧ W.cell? ⟨w.heap.size, 2, none⟩ = some (.string sa) ∧ W.cell? ⟨w.heap.size, 3, none⟩ = some (.slice A3 al.len c3') ∧ W.cell? ⟨w.heap.size, 4, none⟩ = some (.slice A4 am.len c4') ∧
          W.cell? ⟨w.heap.size + 1, 0, none⟩ = some (.int .i64 bk) ∧ W.cell? ⟨w.heap.size + 1, 1, none⟩ = some (.int .i64 bn) ∧ W.cell? ⟨w.heap.size + 1, 2, none⟩ = some (.string sb) ∧ W.cell? ⟨w.heap.size + 1, 3, none⟩ = some (.slice A5 bl.len c5') ∧ W.cell? ⟨w.heap.size + 1, 4, none⟩ = some (.slice A6 bm.len c6') ∧
          KY w (.int .i64 ak) (.int .i64 an) (.string sa) (.slice A3 al.len c3') (.slice A4 am.len c4') (.int .i64 bk) (.int .i64 bn) (.string sb) (.slice A5 bl.len c5') (.slice A6 bm.len c6') a b W)
        (first
          | exact KY.written K3.out.drawn
          | exact KY.written (KY.next (ky_of (by assumption)) (by assumption))
          | go_keep)
        ((first
          | (go_at_call 24; refine (live_same (by first | exact (ky_of (by assumption)).one | exact (ky_of (by assumption)).two | assumption) (by first | exact (ky_of (by assumption)).one | exact (ky_of (by assumption)).two | assumption)).mono ?_; rintro e w' ⟨rfl, hb⟩)
          | (go_at_call 23; refine (live_rsame (by first | exact (ky_of (by assumption)).one | exact (ky_of (by assumption)).two | assumption) (by first | exact (ky_of (by assumption)).one | exact (ky_of (by assumption)).two | assumption)).mono ?_; rintro e w' ⟨rfl, hb⟩)
          | (go_at_call 10; refine (live_copy HSL.out (by exact (ky_of (by assumption)).one)).mono ?_; rintro e w' ⟨y, rfl, hy, hb⟩)
          | (go_at_call 9; refine (KY.awake (ky_of (by assumption))).mono ?_; rintro e w' ⟨rfl, hb⟩)))
      all_goals
        have KB5 := Lib.hid (ky_of (by assumption)).below
        go_wp2_with fail
        go_ret
        exact ⟨rfl, KB5.out⟩
end Go.Proofs.YtcdcfhplkimecaaDoor.LVSames
/- The law ValueSames is proved: for every input the law answers true, and its arguments read behind it as they did. Condition: the listed package variables (seine/letters.shapes, the library's strconv.ErrRange, its table of powers and their like) hold what the program's text lays in them (the card ties that). -/
namespace Go.Proofs.YtcdcfhplkimecaaDoor.LVSames
open Go.ChangeShapes Go.WideShapes Go.ChangeAt Go.RowKit

set_option maxRecDepth 100000 in
theorem contract (H : Type) (enc : TypeId × Value → H) (W : World) (base : Nat) (args : Array Value) (ds gs : List (DataW H)) (before : List MemPlace)
    (hval : ∀ (j : Nat) t v, Tryd.f4.params[j]? = some t → args[j]? = some v → Value.okWide Tryd.prog W .any base t v)
    (hW : DataW.Whole enc Tryd.prog Tryd.f4.params.toList Rows.valueSamesSpec.vars false W args.toList ds gs before) (hL : laidMetH Tryd.prog Rows.valueSamesRow.laid W)
    (hz : (DataW.weightsEach Tryd.prog (Tryd.f4.params.toList ++ (OpenSpec.ofChange Rows.valueSamesSpec).bare.plain.varTypes Tryd.prog) (ds ++ gs)).all (· ≤ reachBytes) = true) :
    Calls Tryd.prog 4 args W fun e W' => ∃ v, e = .returned v ∧ Rows.valueSamesSpec.post enc Tryd.prog Tryd.f4 false true false false W args v W' := by
  have hW' := hW
  obtain ⟨p, q, hA0, hV, rfl, hfz, hnd⟩ := hW
  have hA : DataW.TrodAll enc Tryd.prog W 0 (fun _ => true) true Tryd.f4.params.toList args.toList ds p := hA0
  rw [Tryd.params4] at hA hval
  obtain ⟨a0, vs0, d0, ds0, p0, q0, hargs, rfl, rfl, h0, e0⟩ := trodAll_cons hA
  obtain ⟨a1, vs1, d1, ds1, p1, q1, rfl, rfl, rfl, h1, e1⟩ := trodAll_cons e0
  obtain ⟨rfl, rfl, rfl⟩ := trodAll_nil e1
  obtain rfl : args = #[a0, a1] := by cases args; simp_all
  obtain ⟨rfl, rfl⟩ := trodVars_none hV
  obtain ⟨t0, _, _, _, _, _, rfl, v0, r0, y0, s0⟩ := open_val (hval 0 25 a0 rfl rfl) h0
  have l0 := s0 (fun m hm => by have := List.all_eq_true.1 hz m (DataW.weights_mem_each (j := 0) rfl rfl m hm); simpa using this)
  obtain ⟨t1, _, _, _, _, _, rfl, v1, r1, y1, s1⟩ := open_val (hval 1 25 a1 rfl rfl) h1
  have l1 := s1 (fun m hm => by have := List.all_eq_true.1 hz m (DataW.weights_mem_each (j := 1) rfl rfl m hm); simpa using this)
  clear hA0
  refine (law _ _ _ _ _ _ _ _ _ _ _ _ W v0 v1 l0 (laid5_of hL)).mono fun e W' ⟨he, hb⟩ => ?_
  subst he
  exact ⟨_, rfl, law_post hW' rfl (by kernel_rfl) (by rw [Tryd.params4]; decide +kernel) rfl rfl rfl hb⟩

theorem laid_met (os : Os) : laidMet Tryd.prog Rows.valueSamesRow.laid ((laidWorld os).forCall (fun _ _ => 0) ⟨#[], #[.agg #[.int .i64 0, .int .i64 0, .string ⟨#[]⟩, .slice none 0 0, .slice none 0 0], .agg #[.int .i64 0, .int .i64 0, .string ⟨#[]⟩, .slice none 0 0, .slice none 0 0]], []⟩).memory :=
  laidWorld_met os _
theorem reads (os : Os) {H : Type} (enc : TypeId × Value → H) : ∃ places, DataW.whole enc Tryd.prog ((laidWorld os).forCall (fun _ _ => 0) ⟨#[], #[.agg #[.int .i64 0, .int .i64 0, .string ⟨#[]⟩, .slice none 0 0, .slice none 0 0], .agg #[.int .i64 0, .int .i64 0, .string ⟨#[]⟩, .slice none 0 0, .slice none 0 0]], []⟩).memory Tryd.f4.params.toList Rows.valueSamesSpec.vars false #[Value.agg #[.int .i64 0, .int .i64 0, .string ⟨#[]⟩, .slice none 0 0, .slice none 0 0], .agg #[.int .i64 0, .int .i64 0, .string ⟨#[]⟩, .slice none 0 0, .slice none 0 0]].toList 8 = some ([.agg [.lit (.int .i64 0), .lit (.int .i64 0), .lit (.string []), .nil, .nil], .agg [.lit (.int .i64 0), .lit (.int .i64 0), .lit (.string []), .nil, .nil]], [], places) :=
  ⟨[], by kernel_rfl⟩

set_option maxRecDepth 100000 in
theorem lifted (os : Os) (started : os.Started) (H : Type) (enc : TypeId × Value → H) (F : Stop.Interp) :
    ReturnsInHanded {} Tryd.checked os 4 .any ((OpenSpec.ofChange Rows.valueSamesSpec).preRow enc Tryd.prog Tryd.f4 Rows.valueSamesRow.domain false Rows.valueSamesRow.laid) (((OpenSpec.ofChange Rows.valueSamesSpec).at F).post enc Tryd.prog Tryd.f4 false true false false) := by
  obtain ⟨places, hx⟩ := reads os enc
  refine returnsInHanded_of_row (C := Tryd.checked) (s := (OpenSpec.ofChange Rows.valueSamesSpec)) own started (by kernel_rfl) Tryd.func4
    (witness_row_at (enc := enc) (C := Tryd.checked) false (laidWorld os) #[.agg #[.int .i64 0, .int .i64 0, .string ⟨#[]⟩, .slice none 0 0, .slice none 0 0], .agg #[.int .i64 0, .int .i64 0, .string ⟨#[]⟩, .slice none 0 0, .slice none 0 0]] (World.laidAll_os _ _ _) (by kernel_rfl) (by kernel_rfl) (by kernel_rfl)
      (OpenSpec.preRow_of_cond 8 hx (by kernel_rfl) (fun k hk => by cases hk) (by kernel_rfl) (laid_met os))) ?_
  intro W base args ds gs before hval hW hcond _ hz hL _ _
  exact contract H enc W base args ds gs before hval hW hL hz

theorem said : Rows.ValueSamesSaid :=
  OpenClaim.holds_of_cond 4 Tryd.f4 rfl rfl rfl rfl rfl rfl rfl ⟨rfl, rfl, rfl, rfl, rfl⟩ rfl rfl rfl rfl rfl (by kernel_rfl) Tryd.func4 (by kernel_rfl)
    (of_decide_eq_true (by kernel_rfl)) (by unfold Func.isWrapper; first | (rw [if_pos (by decide +kernel)]; kernel_rfl) | (rw [if_neg (by decide +kernel)]; exact ⟨rfl, rfl⟩))
    (fun os started H enc _ F => by rw [OpenClaim.pre_eq_preRow]; exact lifted os started H enc F)

theorem plain (f : FuncId) (fn : Func) (hf : Tryd.pinned.checked.prog.funcNamed "seine/seinelaw5.ValueSames" = some f) (hfn : Tryd.pinned.checked.prog.funcs[f]? = some fn) :
    true = Tryd.pinned.checked.prog.looks [] ∧ ∀ (j : Nat) t, fn.params[j]? = some t → Tryd.pinned.checked.prog.wantsStandIn t = false := by
  obtain rfl : f = 4 := Option.some.inj ((show Tryd.prog.funcNamed "seine/seinelaw5.ValueSames" = some 4 by kernel_rfl).symm.trans hf) |>.symm
  obtain rfl : fn = Tryd.f4 := (Option.some.inj (Tryd.func4.symm.trans hfn)).symm
  refine ⟨by kernel_rfl, fun j t ht => ?_⟩
  rw [Tryd.params4] at ht
  have hall : ∀ t ∈ [25, 25], Tryd.prog.wantsStandIn t = false := by decide +kernel
  exact hall t (by simpa using Array.mem_of_getElem? ht)

theorem card : Rows.ValueSamesCardSaid :=
  Claim7.holds_tied_plain_at .later [] _ _ _ _ said (fun _ h => by cases h) (by kernel_rfl) (fun _ h => by cases h) valueSames_row_tie rfl ⟨rfl, rfl⟩ (by kernel_rfl) rfl plain (by kernel_rfl)
end Go.Proofs.YtcdcfhplkimecaaDoor.LVSames
