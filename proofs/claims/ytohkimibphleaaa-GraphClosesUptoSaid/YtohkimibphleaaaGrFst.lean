/- graph.firsts, graph's places. (gen_grfst.py wrote it.) -/
import Derived.Test.YtohkimibphleaaaGrSpr
namespace Go.Proofs.Ytohkimibphleaaa
open Go.RowKit

theorem gbelow_grown {B : Nat} {w w' w'' : World} {r : Option Nat} (h : Below B w w') (hg : w'.grownBy w'' r) (hB : B ≤ w'.heap.size) (hr : ∀ b, r = some b → B ≤ b) : Below B w w'' :=
  ⟨hg.os.trans h.os, hg.tape.trans h.tape, hg.output.trans h.output, Nat.le_trans h.size hg.size, fun b hb => (hg.block b (by omega) (fun e => by have := hr b e.symm; omega)).trans (h.block b hb)⟩
def namesF (D : DocT) : List ByteArray := D.frags.map (·.name)
/-- The places of these names. -/
def plcN (N : List ByteArray) (l : List ByteArray) : List Nat := l.filterMap fun s => if inN N s = true then some (fstIx N s) else none
theorem plc_next {N l : List ByteArray} {i : Nat} {s : ByteArray} (h : l[i]? = some s) : plcN N (l.take (i + 1)) = plcN N (l.take i) ++ (if inN N s = true then [fstIx N s] else []) := by
  unfold plcN
  rw [List.take_add_one, h, List.filterMap_append]
  congr 1
  cases hb : inN N s <;> simp [hb]
theorem plc_size (N l : List ByteArray) (i : Nat) : (plcN N (l.take i)).length ≤ i := Nat.le_trans (List.length_filterMap_le ..) (by rw [List.length_take]; omega)
theorem FirstM.below {w w' : World} {M : Nat} {N : List ByteArray} (h : FirstM w M N) (hb : Below w.heap.size w w') : FirstM w' M N := h.one (hb.block M h.lt)
theorem gint_row : ∃ i z, Try.prog.info? 3 = some i ∧ i.zero = some z ∧ i.size = 1 ∧ i.bytes = 8 ∧ z.cells.size = 1 := ginfo_of (by kernel_rfl)
theorem gmap_other {w w' : World} {n b : Nat} (h : w.grownBy w' (some b)) (hn : n ≤ b) (hb : n ≤ w.heap.size) : Below n w w' := ⟨h.os, h.tape, h.output, h.size, fun k hk => h.block k (by omega) (fun e => by injection e; omega)⟩
set_option maxRecDepth 100000 in
set_option maxHeartbeats 8000000 in
theorem firsts_any (D : DocT) (c0 c1 : Value) (w : World) (B : Nat) (hB : B ≤ w.heap.size) (hD : TS w (fun b => b < B) (encDoc D) [c0, c1]) (hN : D.frags.length ≤ 1099511627776) :
    Calls Try.prog 29 #[.agg #[c0, c1]] w fun e w' => ∃ M, e = .returned (.map (some M)) ∧ FirstM w' M (namesF D) ∧ w.heap.size ≤ M ∧ Below w.heap.size w w' := by
  obtain ⟨Ao, ko, Af, kf, rfl, rfl, _, _, rf⟩ := doc_cells hD
  have HB0 := Lib.hid hB
  have HRF := Lib.hid (fun (wx : World) (h : Below w.heap.size w wx) => RowT.below (h.mono hB) rf)
  clear hD rf hB
  have hmk := fun (wx : World) => gmake_map (P := Try.prog) 62 wx
  obtain ⟨n, hn⟩ : ∃ n, w.heap.size = n := ⟨_, rfl⟩
  go_enter Try.func29, Try.ntmps29
  go_upto_region 3 with fail
  have M1 : Hid (FirstM ((w.alloc (.cells #[.slice Ao D.ops.length ko, .slice Af D.frags.length kf] 25)).alloc (.map #[] 0)) (n + 1) []) := Lib.hid (by
    have h := FirstM.made (w.alloc (.cells #[.slice Ao D.ops.length ko, .slice Af D.frags.length kf] 25))
    rw [World.size_alloc, hn] at h
    exact h)
  have B1 : Hid (Below n w ((w.alloc (.cells #[.slice Ao D.ops.length ko, .slice Af D.frags.length kf] 25)).alloc (.map #[] 0))) := Lib.hid (by rw [← hn]; exact ((Below.refl _ _).alloc (Nat.le_refl _) _).alloc (by simp) _)
  generalize (w.alloc (.cells #[.slice Ao D.ops.length ko, .slice Af D.frags.length kf] 25)).alloc (.map #[] 0) = w1 at M1 B1 ⊢
  rw [hn] at HRF HB0
  have HN := Lib.hid hn
  clear hmk hn
  go_loopg [12] D.frags.length (fun g t wx => ∃ q : Nat, q + g = D.frags.length ∧ t = .int .i64 q ∧ Asd (Below n w wx ∧ FirstM wx (n + 1) ((namesF D).take q)))
  case atStart => exact ⟨0, by omega, rfl, Asd.intro ⟨B1.out, M1.out⟩⟩
  case round =>
    obtain ⟨q, hq, rfl, HX⟩ := hrel
    have BL := Lib.hid HX.out.1
    have ML := Lib.hid HX.out.2
    clear HX M1 B1
    cases gk with
    | zero =>
      obtain rfl : q = D.frags.length := by omega
      have M2 := ML.out
      rw [List.take_of_length_le (by unfold namesF; simp)] at M2
      have M2 := Lib.hid M2
      go_wp2_with fail
      go_ret
      exact ⟨n + 1, rfl, M2.out, by rw [HN.out]; omega, by rw [HN.out]; exact BL.out⟩
    | succ g =>
      have hqn : q < D.frags.length := by omega
      have hqn' : (q : Int) < (D.frags.length : Int) := by omega
      obtain ⟨x, hx⟩ : ∃ x, D.frags[q]? = some x := ⟨_, List.getElem?_eq_getElem hqn⟩
      obtain ⟨b, p, Ad, kd, As, ks, rfl, hlt, ⟨f0, f1, f2, f3⟩, ⟨hnm, _⟩, _, _, _⟩ := frag_at (HRF.out _ BL.out) hx
      have hnx : (namesF D)[q]? = some x.name := by unfold namesF; rw [List.getElem?_map, hx]; rfl
      have htk : (namesF D).take (q + 1) = (namesF D).take q ++ [x.name] := by rw [List.take_add_one, hnx]; rfl
      have hlq : ((namesF D).take q).length = q := by rw [List.length_take]; unfold namesF; rw [List.length_map]; omega
      have HTK := Lib.hid htk
      clear hx hnx htk
      go_upto_region 5 with fail
      clear f0 f1 f2 f3
      have hbn := gnew wr (.cells #[.string x.name, .string x.on, .slice Ad x.dirs.length kd, .slice As x.sels.len ks] 30)
      have BL2 := Lib.hid (BL.out.trans (hbn.mono (by have h1 := BL.out.size; have h2 := HN.out; omega)))
      have ML2 := Lib.hid (ML.out.below hbn)
      have i9 := Lib.hid (heap_alloc_new wr (.cells #[.string x.name, .string x.on, .slice Ad x.dirs.length kd, .slice As x.sels.len ks] 30))
      have hgx : n + 1 < wr.heap.size := ML.out.lt
      generalize wr.alloc (.cells #[.string x.name, .string x.on, .slice Ad x.dirs.length kd, .slice As x.sels.len ks] 30) = w2 at BL2 ML2 i9 ⊢
      generalize wr.heap.size = gx at i9 hgx ⊢
      clear hbn BL ML
      obtain ⟨⟨y0, y1, y2, y3⟩, _⟩ := gcells4 i9.out
      have hlk := ML2.out.look x.name hnm
      obtain ⟨b9, g9⟩ : ∃ b, inN ((namesF D).take q) x.name = b := ⟨_, rfl⟩
      rw [g9] at hlk
      cases b9
      · obtain ⟨DD, hD1, hD2⟩ := ML2.out
        have HD1 := Lib.hid hD1
        have HD2 := Lib.hid (hD2.put g9)
        have hkey := WideMaps.keyOf_string_mk (P := Try.prog) Try.underlying9 (show x.name.size ≤ maxLen by unfold maxLen; exact hnm)
        rw [hlq] at HD1 HD2
        have hwf : (Lit.int .i64 (q : Int)).wf = true := by
          unfold Lit.wf
          simp only [Bool.and_eq_true, decide_eq_true_iff]
          exact ⟨by show (-9223372036854775808 : Int) ≤ _; omega, by show _ ≤ (9223372036854775807 : Int); omega⟩
        clear hD1 hD2
        go_wp2_with (at_mapUpdate; go_loud (refine wpList_mapUpdate_own _ rfl _ _ _ 62 rfl 9 3 (Maps.string_keyed Try.underlying9) Try.underlying62 _ (n + 1) q DD rfl HD1.out (by unfold maxLen; omega) _ _ _ rfl rfl hkey _ [] (plainElem_int Try.underlying3 hwf) ?_; intro w8 hown8 hg8; have HO8 := Lib.hid hown8; have HG8 := Lib.hid hg8; clear hown8 hg8))
        go_roundg g
        case measure => omega
        case rel =>
          have HD3 := HD2.out
          have HO3 := HO8.out
          rw [← HTK.out] at HD3
          refine ⟨q + 1, by omega, by go_num, Asd.intro ⟨BL2.out.trans (gmap_other HG8.out (by omega) (by have h1 := BL2.out.size; have h2 := HN.out; omega)), DD.put (.string x.name.data.toList) (.lit (.int .i64 q)), ?_, HD3⟩⟩
          rw [HTK.out, List.length_append, List.length_singleton, hlq]
          exact HO3
      · go_wp2_with fail
        go_roundg g
        case measure => omega
        case rel =>
          refine ⟨q + 1, by omega, by go_num, Asd.intro ⟨BL2.out, ?_⟩⟩
          rw [HTK.out]
          obtain ⟨DD, hD1, hD2⟩ := ML2.out
          exact ⟨DD, hD1.mono (by rw [List.length_append]; omega), hD2.old g9⟩
set_option maxRecDepth 100000 in
set_option maxHeartbeats 8000000 in
theorem places_any (N : List ByteArray) (M : Nat) (wv : Value) (l : SelL) (A : Option Addr) (k : Nat) (w : World) (B : Nat) (hM : FirstM w M N) (hB : B ≤ w.heap.size) (hS : SelsAt w B l A) (hk : l.len ≤ k) (XS : List SelT) (hXS : XS = gpreL l) (hN : XS.length ≤ 1099511627776) (hnm : ∀ s, s ∈ sprL XS → s.size ≤ 9223372036854775807) :
    Calls Try.prog 20 #[.agg #[.map (some M), wv], .slice A l.len k] w fun e w' => ∃ V, e = .returned V ∧ w'.ownsRow w.heap.size 3 1 V (plcN N (sprL XS)).length ((plcN N (sprL XS)).map fun (q : Nat) => Value.int .i64 q) ∧ Below w.heap.size w w' := by
  have HM := Lib.hid hM
  have HNM := Lib.hid hnm
  have SP := Lib.hid (fun (wx : World) (h : Below w.heap.size w wx) => spreads_any l A k wx B (Nat.le_trans hB h.size) (hS.below (h.mono hB)) hk XS hXS hN)
  have hZ : (sprL XS).length ≤ 1099511627776 := by have := spr_size XS XS.length; rw [List.take_length] at this; omega
  obtain ⟨i0, z, hi0, hz0, hz1, hz2, hz3⟩ := gint_row
  clear hM hB hS hXS hnm
  go_enter Try.func20, Try.ntmps20
  go_upto_region 2 with fail
  have B1 := Lib.hid (gnew w (.cells #[.map (some M), wv] 65))
  have M1 := Lib.hid (HM.out.below B1.out)
  have i1 := Lib.hid (heap_alloc_new w (.cells #[.map (some M), wv] 65))
  generalize w.alloc (.cells #[.map (some M), wv] 65) = w1 at B1 M1 i1 ⊢
  have hg1 : w.heap.size < w1.heap.size := (Array.getElem?_eq_some_iff.1 i1.out).1
  clear HM
  go_wp2_with fail
  refine (SP.out _ B1.out).mono ?_
  rintro e w2 ⟨V1, rfl, hown1, hb2⟩
  have B2 := Lib.hid (B1.out.trans (hb2.mono B1.out.size))
  have M2 := Lib.hid (M1.out.below hb2)
  have i2 := Lib.hid ((hb2.block _ hg1).trans i1.out)
  obtain ⟨A1, c1, rfl⟩ := shape_own hown1
  have O1 := Lib.hid hown1
  clear hb2 hown1 B1 M1 i1 SP
  obtain ⟨L, hL⟩ : ∃ L, sprL XS = L := ⟨_, rfl⟩
  rw [hL] at O1 hZ HNM ⊢
  have HL := Lib.hid hL
  clear hL
  go_wp2_with fail
  go_loopg [5, 13] L.length (fun g v t wx => ∃ q : Nat, q + g = L.length ∧ t = .int .i64 q ∧ Asd (Below w2.heap.size w2 wx ∧ wx.ownsRow w2.heap.size 3 1 v (plcN N (L.take q)).length ((plcN N (L.take q)).map fun (q : Nat) => Value.int .i64 q)))
  case atStart => exact ⟨0, by omega, rfl, Asd.intro ⟨Below.refl _ _, World.ownsRow_nil _ _ _ _⟩⟩
  case round =>
    obtain ⟨q, hq, rfl, HX⟩ := hrel
    have BL := Lib.hid HX.out.1
    have OL := Lib.hid HX.out.2
    clear HX
    have ML := Lib.hid (M2.out.below BL.out)
    obtain ⟨⟨y0, y1⟩, _⟩ := gcells2 ((BL.out.block w.heap.size (Array.getElem?_eq_some_iff.1 i2.out).1).trans i2.out)
    cases gk with
    | zero =>
      obtain rfl : q = L.length := by omega
      have O2 := OL.out
      rw [List.take_length] at O2
      have O2 := Lib.hid (gown_base O2 B2.out.size)
      go_wp2_with fail
      go_ret
      rw [HL.out]
      exact ⟨_, rfl, O2.out, B2.out.trans (BL.out.mono B2.out.size)⟩
    | succ g =>
      have hqn : q < L.length := by omega
      have hqn' : (q : Int) < (L.length : Int) := by omega
      obtain ⟨s, hx⟩ : ∃ s, L[q]? = some s := ⟨_, List.getElem?_eq_getElem hqn⟩
      have OX := own_low O1.out BL.out
      obtain ⟨g1, cp, e1⟩ := (World.ownsRow.form OX (by omega))
      injection e1.1 with e2 e3 e4
      subst e2 e4
      have hsc := OX.cells (g := g1) rfl q (.string s) (by rw [List.getElem?_map, hx]; rfl)
      rw [add_at, Nat.zero_add] at hsc
      have hlk := ML.out.look s (HNM.out s (List.mem_of_getElem? hx))
      have hpl := Lib.hid (plc_next (N := N) hx)
      have hps := plc_size N L q
      obtain ⟨b9, g9⟩ : ∃ b, inN N s = b := ⟨_, rfl⟩
      rw [g9] at hlk hpl
      clear hx e1 OX
      cases b9
      · go_wp2_with fail
        go_roundg g
        case measure => omega
        case rel =>
          refine ⟨q + 1, by omega, by go_num, Asd.intro ⟨BL.out, ?_⟩⟩
          rw [hpl.out]
          simpa using OL.out
      · go_wp2_with (at_builtin; go_loud (refine wpList_append_lies _ rfl _ _ 69 rfl w2.heap.size 3 i0 z 1 8 Try.underlying69 hi0 hz0 hz1 hz2 hz3 (by decide) _ (plcN N (L.take q)).length _ rfl (OL.out.alloc _) _ 1 1 [.int .i64 (fstIx N s)] rfl rfl (gone_news _ _ _ (by first | rfl | (simp; done))) (by intro y hy; simp at hy; subst hy; rfl) (by decide) (by unfold maxLen; omega) (by omega) (by have := BL.out.size; simp; omega) _ rfl ?_; intro g6 cap6 W6 hown6 hgrow hat hlt6; have HG6 := Lib.hid hgrow; have HO6 := Lib.hid hown6; clear hgrow hown6 hat))
        go_roundg g
        case measure => omega
        case rel =>
          have HO7 := HO6.out
          refine ⟨q + 1, by omega, by go_num, Asd.intro ⟨gbelow_grown (BL.out.alloc BL.out.size _) HG6.out (by have := BL.out.size; simp; omega) (fun b hb => (OL.out.lt b hb).1), ?_⟩⟩
          rw [hpl.out, if_pos trivial, List.length_append, List.map_append]
          exact HO7
end Go.Proofs.Ytohkimibphleaaa
