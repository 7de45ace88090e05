/- The walk of value.write: the simple kinds. (gen_write.py wrote it.) -/
import Derived.Test.YtpkmbhnikilihaaGreatDoorQp14
import Derived.Test.YtpkmbhnikilihaaGreatDoorCards
import Derived.Test.YtpkmbhnikilihaaGreatDoorTie
import Derived.OpenShut
import Derived.Deep.DeepHandedRow
import Derived.Lib.LaidU8
import Derived.Lay
import Derived.MakeChecks
import Derived.Deep.SlicePairs
import Derived.SizedLaws
import Derived.Lib.TrimUEq
namespace Go.Proofs.YtpkmbhnikilihaaGreatDoor
open Go.RowKit
def KB (base : Nat) (w : World) : Prop := ∃ w0, Laid5 w0 ∧ w0.heap.size ≤ base ∧ Below w0.heap.size w0 w
theorem KB.laid {base : Nat} {w : World} (h : KB base w) : Laid5 w := by
 obtain ⟨w0, h0, _, hb⟩ := h
 exact h0.below hb
theorem KB.below {base : Nat} {w w' : World} (h : KB base w) (hb : Below base w w') : KB base w' := by
 obtain ⟨w0, h0, hl, hb0⟩ := h
 exact ⟨w0, h0, hl, hb0.trans (hb.mono hl)⟩
mutual
theorem vtok_len : ∀ v : VT, (vtok v).length + 2 ≤ 4 * sizeV v
 | .mk k n s l m => by
   have h1 := vtokL_len l
   have h2 := vtokM_len m
   rw [vtok, sizeV]
   repeat' split
   all_goals (simp only [List.length_cons, List.length_nil, List.length_append]; omega)
theorem vtokL_len : ∀ l : VL, (vtokL l).length ≤ 4 * sizeL l
 | .nil => by simp [vtokL]
 | .cons v t => by
   rw [vtokL, sizeL, List.length_append]
   have := vtok_len v
   have := vtokL_len t
   omega
theorem vtokM_len : ∀ l : VM, (vtokM l).length ≤ 4 * sizeM l
 | .nil => by simp [vtokM]
 | .cons nm v t => by
   rw [vtokM, sizeM]
   simp only [List.length_cons, List.length_append]
   have := vtok_len v
   have := vtokM_len t
   omega
end
def WriteC (v : VT) : Prop := ∀ (c0 c1 c2 c3 c4 : Value) (w : World) (base : Nat) (V : Value) (ts : List (Int × ByteArray)), base ≤ w.heap.size → VAt w base v c0 c1 c2 c3 c4 → TR base w V ts → ts.length + 4 * sizeV v ≤ 20000000 → sizeV v ≤ 1100000 → KB base w → fitV nameB v = true → RngV v →
 Calls Tryz.prog 57 #[V, .agg #[c0, c1, c2, c3, c4]] w fun e w' => ∃ V', e = .returned V' ∧ TR base w' V' (ts ++ vtok v) ∧ Grew w w' V V'
theorem write_said {base : Nat} {w w' : World} {v : VT} {V V' : Value} {ts new : List (Int × ByteArray)} (hk : vtok v = new) (h : TR base w' V' (ts ++ new)) (hb : Grew w w' V V') : ∃ V'', Ending.returned V' = .returned V'' ∧ TR base w' V'' (ts ++ vtok v) ∧ Grew w w' V V'' := ⟨V', rfl, by rw [hk]; exact h, hb⟩
theorem als (w : World) (o : Obj) : Below w.heap.size w (w.alloc o) := (Below.refl _ _).alloc (Nat.le_refl _) o
theorem tbl {w w2 w3 : World} (h : Below w.heap.size w w2) (h' : Below w2.heap.size w2 w3) : Below w.heap.size w w3 := h.trans (h'.mono h.size)
set_option maxRecDepth 100000 in
set_option maxHeartbeats 4000000 in
theorem write_null (n : Int) (s : ByteArray) (l : VL) (m : VM) : WriteC (.mk 0 n s l m) := by
 intro c0 c1 c2 c3 c4 w base V ts hB hv hT hlen hz hK hfit hrng
 have hs9 : s.size ≤ 1100000 := by rw [sizeV] at hz; omega
 have hlen2 : ts.length + 4 ≤ 20000000 := by rw [sizeV] at hlen; omega
 unfold RngV at hrng
 have hn := hrng.1
 unfold VAt at hv
 obtain ⟨rfl, rfl, rfl, _, ⟨A, c, rfl, hl, hL⟩, A', c', rfl, hm, hM⟩ := hv
 have HB := Hd hB
 have HT := Hd hT
 have HK := Hd hK
 have HS := Hd hlen2
 have HN := Hd hn
 have h1 := Hd (als w (.cells #[.int .i64 0, .int .i64 n, .string s, .slice A l.len c, .slice A' m.len c'] 35))
 clear hL hM hB hT hK hlen hlen2 hfit hrng hn hz
 go_enter Tryz.func57, Tryz.ntmps57
 go_wp2_with fail
 refine (vword_any _ _).mono ?_
 rintro e w2 ⟨rfl, hb2⟩
 have B2 := Hd (tbl h1.out hb2)
 clear hb2
 go_wp2_with (at_builtin; refine wpList_append_tok rfl _ _ rfl base _ ts rfl ((HT.out.low B2.out).low (als _ _)) _ _ _ [(2, nullT)] rfl rfl (tok_new1 _ _ _ _ (by first | rfl | (simp; done))) (by omega) (by have := HS.out; omega) (Nat.le_trans HB.out (Nat.le_trans B2.out.size (als _ _).size)) ?_; intro v5 w5 h5 g5; have H5 := Hd h5; have G5 := Hd ((Grew.of_below (tbl B2.out (als _ _))).trans g5); clear h5 g5)
 go_ret
 exact write_said (vtok0 _ _ _ _) H5.out G5.out
set_option maxRecDepth 100000 in
set_option maxHeartbeats 4000000 in
theorem write_bool (n : Int) (s : ByteArray) (l : VL) (m : VM) : WriteC (.mk 1 n s l m) := by
 intro c0 c1 c2 c3 c4 w base V ts hB hv hT hlen hz hK hfit hrng
 have hs9 : s.size ≤ 1100000 := by rw [sizeV] at hz; omega
 have hlen2 : ts.length + 4 ≤ 20000000 := by rw [sizeV] at hlen; omega
 unfold RngV at hrng
 have hn := hrng.1
 unfold VAt at hv
 obtain ⟨rfl, rfl, rfl, _, ⟨A, c, rfl, hl, hL⟩, A', c', rfl, hm, hM⟩ := hv
 have HB := Hd hB
 have HT := Hd hT
 have HK := Hd hK
 have HS := Hd hlen2
 have HN := Hd hn
 have h1 := Hd (als w (.cells #[.int .i64 1, .int .i64 n, .string s, .slice A l.len c, .slice A' m.len c'] 35))
 clear hL hM hB hT hK hlen hlen2 hfit hrng hn hz
 go_enter Tryz.func57, Tryz.ntmps57
 go_wp2_with fail
 refine (vtruth_any _ _).mono ?_
 rintro e w2 ⟨rfl, hb2⟩
 have B2 := Hd (tbl h1.out hb2)
 clear hb2
 go_wp2_with (at_builtin; refine wpList_append_tok rfl _ _ rfl base _ ts rfl ((HT.out.low B2.out).low (als _ _)) _ _ _ [(2, truthT n)] rfl rfl (tok_new1 _ _ _ _ (by first | rfl | (simp; done))) (by omega) (by have := HS.out; omega) (Nat.le_trans HB.out (Nat.le_trans B2.out.size (als _ _).size)) ?_; intro v5 w5 h5 g5; have H5 := Hd h5; have G5 := Hd ((Grew.of_below (tbl B2.out (als _ _))).trans g5); clear h5 g5)
 go_ret
 exact write_said (vtok1 _ _ _ _) H5.out G5.out
set_option maxRecDepth 100000 in
set_option maxHeartbeats 4000000 in
theorem write_int (n : Int) (s : ByteArray) (l : VL) (m : VM) : WriteC (.mk 2 n s l m) := by
 intro c0 c1 c2 c3 c4 w base V ts hB hv hT hlen hz hK hfit hrng
 have hs9 : s.size ≤ 1100000 := by rw [sizeV] at hz; omega
 have hlen2 : ts.length + 4 ≤ 20000000 := by rw [sizeV] at hlen; omega
 unfold RngV at hrng
 have hn := hrng.1
 unfold VAt at hv
 obtain ⟨rfl, rfl, rfl, _, ⟨A, c, rfl, hl, hL⟩, A', c', rfl, hm, hM⟩ := hv
 have HB := Hd hB
 have HT := Hd hT
 have HK := Hd hK
 have HS := Hd hlen2
 have HN := Hd hn
 have h1 := Hd (als w (.cells #[.int .i64 2, .int .i64 n, .string s, .slice A l.len c, .slice A' m.len c'] 35))
 clear hL hM hB hT hK hlen hlen2 hfit hrng hn hz
 go_enter Tryz.func57, Tryz.ntmps57
 go_wp2_with fail
 refine (formatInt n HN.out _ (HK.out.laid.below h1.out)).mono ?_
 rintro e w2 ⟨rfl, hb2⟩
 have B2 := Hd (tbl h1.out hb2)
 clear hb2
 go_wp2_with (at_builtin; refine wpList_append_tok rfl _ _ rfl base _ ts rfl ((HT.out.low B2.out).low (als _ _)) _ _ _ [(3, itoaT n)] rfl rfl (tok_new1 _ _ _ _ (by first | rfl | (simp; done))) (by omega) (by have := HS.out; omega) (Nat.le_trans HB.out (Nat.le_trans B2.out.size (als _ _).size)) ?_; intro v5 w5 h5 g5; have H5 := Hd h5; have G5 := Hd ((Grew.of_below (tbl B2.out (als _ _))).trans g5); clear h5 g5)
 go_ret
 exact write_said (vtok2 _ _ _ _) H5.out G5.out
set_option maxRecDepth 100000 in
set_option maxHeartbeats 4000000 in
theorem write_text (n : Int) (s : ByteArray) (l : VL) (m : VM) : WriteC (.mk 4 n s l m) := by
 intro c0 c1 c2 c3 c4 w base V ts hB hv hT hlen hz hK hfit hrng
 have hs9 : s.size ≤ 1100000 := by rw [sizeV] at hz; omega
 have hlen2 : ts.length + 4 ≤ 20000000 := by rw [sizeV] at hlen; omega
 unfold RngV at hrng
 have hn := hrng.1
 unfold VAt at hv
 obtain ⟨rfl, rfl, rfl, _, ⟨A, c, rfl, hl, hL⟩, A', c', rfl, hm, hM⟩ := hv
 have HB := Hd hB
 have HT := Hd hT
 have HK := Hd hK
 have HS := Hd hlen2
 have HN := Hd hn
 have h1 := Hd (als w (.cells #[.int .i64 4, .int .i64 n, .string s, .slice A l.len c, .slice A' m.len c'] 35))
 clear hL hM hB hT hK hlen hlen2 hfit hrng hn hz
 go_enter Tryz.func57, Tryz.ntmps57
 go_wp2_with (at_builtin; refine wpList_append_tok rfl _ _ rfl base _ ts rfl ((HT.out.low h1.out).low (als _ _)) _ _ _ [(5, s)] rfl rfl (tok_new1 _ _ _ _ (by first | rfl | (simp; done))) (by omega) (by have := HS.out; omega) (Nat.le_trans HB.out (Nat.le_trans h1.out.size (als _ _).size)) ?_; intro v5 w5 h5 g5; have H5 := Hd h5; have G5 := Hd ((Grew.of_below (tbl h1.out (als _ _))).trans g5); clear h5 g5)
 go_ret
 exact write_said (vtok4 _ _ _ _) H5.out G5.out
set_option maxRecDepth 100000 in
set_option maxHeartbeats 4000000 in
theorem write_enum (n : Int) (s : ByteArray) (l : VL) (m : VM) : WriteC (.mk 5 n s l m) := by
 intro c0 c1 c2 c3 c4 w base V ts hB hv hT hlen hz hK hfit hrng
 have hs9 : s.size ≤ 1100000 := by rw [sizeV] at hz; omega
 have hlen2 : ts.length + 4 ≤ 20000000 := by rw [sizeV] at hlen; omega
 unfold RngV at hrng
 have hn := hrng.1
 unfold VAt at hv
 obtain ⟨rfl, rfl, rfl, _, ⟨A, c, rfl, hl, hL⟩, A', c', rfl, hm, hM⟩ := hv
 have HB := Hd hB
 have HT := Hd hT
 have HK := Hd hK
 have HS := Hd hlen2
 have HN := Hd hn
 have h1 := Hd (als w (.cells #[.int .i64 5, .int .i64 n, .string s, .slice A l.len c, .slice A' m.len c'] 35))
 clear hL hM hB hT hK hlen hlen2 hfit hrng hn hz
 go_enter Tryz.func57, Tryz.ntmps57
 go_wp2_with fail
 refine (vword_any _ _).mono ?_
 rintro e w2 ⟨rfl, hb2⟩
 have B2 := Hd (tbl h1.out hb2)
 clear hb2
 go_wp2_with (at_builtin; refine wpList_append_tok rfl _ _ rfl base _ ts rfl ((HT.out.low B2.out).low (als _ _)) _ _ _ [(2, s)] rfl rfl (tok_new1 _ _ _ _ (by first | rfl | (simp; done))) (by omega) (by have := HS.out; omega) (Nat.le_trans HB.out (Nat.le_trans B2.out.size (als _ _).size)) ?_; intro v5 w5 h5 g5; have H5 := Hd h5; have G5 := Hd ((Grew.of_below (tbl B2.out (als _ _))).trans g5); clear h5 g5)
 go_ret
 exact write_said (vtok5 _ _ _ _) H5.out G5.out
open Go.ChangeShapes Go.WideShapes Go.ChangeAt Go.RowKit
theorem own : ownKnob Tryz.prog.godebug = none := by kernel_rfl
theorem laidOut : laidOutB Tryz.prog = true := by kernel_rfl
theorem gTab : Tryz.prog.globalNamed "seine/letters.shapes" = some 1 := by kernel_rfl
theorem gTabType : (Tryz.prog.globals[1]?).map (·.type) = some 267 := by kernel_rfl
theorem cellsTab : Tryz.prog.cellsOf 267 = 12 := by kernel_rfl
theorem cellsShape : Tryz.prog.cellsOf 266 = 3 := by kernel_rfl
theorem cellsInt : Tryz.prog.cellsOf 3 = 1 := by kernel_rfl
theorem one_shape {w : World} {cs : List Value} {m : Nat} {a b c : Int} {p : List MemPlace} (h : DataW.trod (fun _ => ()) Tryz.prog w 0 (fun _ => true) false m 266 cs = some (DataW.agg [.lit (.int .i64 a), .lit (.int .i64 b), .lit (.int .i64 c)], p)) :
   cs = [.int .i64 a, .int .i64 b, .int .i64 c] := by
 obtain ⟨y0, y1, y2, n, hx, hl, h0, h1, h2⟩ := Go.Deep.trod_struct3 Tryz.underlying266 h
 rw [cellsShape] at hl
 simp only [cellsInt] at h0 h1 h2
 obtain ⟨n0, c0, rfl, _⟩ := DataW.trod_int Tryz.underlying3 h0
 obtain ⟨n1, c1, rfl, _⟩ := DataW.trod_int Tryz.underlying3 h1
 obtain ⟨n2, c2, rfl, _⟩ := DataW.trod_int Tryz.underlying3 h2
 simp only [Prod.mk.injEq, DataW.agg.injEq, List.cons.injEq, DataW.lit.injEq, Lit.int.injEq, true_and, and_true] at hx
 obtain ⟨⟨rfl, rfl, rfl⟩, _⟩ := hx
 match cs, hl with
 | [x, y, z], _ =>
   simp at c0 c1 c2
   subst c0 c1 c2
   rfl
theorem table {W : World} (h : Lib.VarReads Tryz.prog W "seine/letters.shapes" Rows.laid_seine_letters_shapes) : TabAt W := by
 obtain ⟨g', t', cs, fuel, p, hg', ht', hvar, hd⟩ := h
 obtain rfl := Option.some.inj (gTab.symm.trans hg')
 obtain rfl := Option.some.inj (gTabType.symm.trans ht')
 obtain ⟨xs, m, _, hx, hl, hxl, hi⟩ := DataW.trod_array Tryz.underlying267 hd
 rw [cellsTab] at hl
 simp only [cellsShape] at hi
 match xs, hxl with
 | [x0, x1, x2, x3], _ =>
   simp only [Rows.laid_seine_letters_shapes, List.map_cons, List.map_nil, Prod.mk.injEq, DataW.agg.injEq, List.cons.injEq, and_true] at hx
   obtain ⟨⟨e0, e1, e2, e3⟩, _⟩ := hx
   have a0 := one_shape (p := x0.2) ((hi 0 (by omega)).trans (by rw [e0]; rfl))
   have a1 := one_shape (p := x1.2) ((hi 1 (by omega)).trans (by rw [e1]; rfl))
   have a2 := one_shape (p := x2.2) ((hi 2 (by omega)).trans (by rw [e2]; rfl))
   have a3 := one_shape (p := x3.2) ((hi 3 (by omega)).trans (by rw [e3]; rfl))
   have hcs : cs.toList = [.int .i64 0, .int .i64 128, .int .i64 0, .int .i64 192, .int .i64 224, .int .i64 128, .int .i64 224, .int .i64 240, .int .i64 2048, .int .i64 240, .int .i64 248, .int .i64 65536] := by
    have hl' : cs.toList.length = 12 := hl
    generalize cs.toList = l at *
    match l, hl' with
    | [b0, b1, b2, b3, b4, b5, b6, b7, b8, b9, b10, b11], _ =>
      simp at a0 a1 a2 a3
      obtain ⟨rfl, rfl, rfl⟩ := a0
      obtain ⟨rfl, rfl, rfl⟩ := a1
      obtain ⟨rfl, rfl, rfl⟩ := a2
      obtain ⟨rfl, rfl, rfl⟩ := a3
      rfl
   intro j z hz
   rw [World.var?_cell gTab hvar j]
   have : cs[j]? = cs.toList[j]? := by simp
   rw [this, hcs]
   have hj : j < 12 := (List.getElem?_eq_some_iff.1 hz).1
   match j, hj, hz with
   | 0, _, hz | 1, _, hz | 2, _, hz | 3, _, hz | 4, _, hz | 5, _, hz | 6, _, hz | 7, _, hz | 8, _, hz | 9, _, hz | 10, _, hz | 11, _, hz => cases hz; rfl
theorem gErr : Tryz.prog.globalNamed "strconv.ErrSyntax" = some 2 := by kernel_rfl
theorem gErrType : (Tryz.prog.globals[2]?).map (·.type) = some 105 := by kernel_rfl
theorem error_laid {W : World} (h : Lib.VarReads Tryz.prog W "strconv.ErrSyntax" Rows.laid_strconv_ErrSyntax) : ∃ te pe, W.cell? ⟨2, 0, none⟩ = some (.iface te pe) := by
 obtain ⟨g', t', cs, fuel, p, hg', ht', hvar, hd⟩ := h
 obtain rfl := Option.some.inj (gErr.symm.trans hg')
 obtain rfl := Option.some.inj (gErrType.symm.trans ht')
 obtain ⟨_, u, v, e, _, _⟩ := iface_of_trod Tryz.underlying105 hd
 refine ⟨u, v, ?_⟩
 rw [World.var?_cell gErr hvar 0]
 have : cs[0]? = cs.toList[0]? := by simp
 rw [this, e]
 rfl
abbrev allLaid : List (String × DataW Unit) := [("math/bits.deBruijn32tab", Rows.laid_math_bits_deBruijn32tab), ("math/bits.deBruijn64tab", Rows.laid_math_bits_deBruijn64tab), ("internal/strconv.uint64pow10", Rows.laid_internal_strconv_uint64pow10), ("strconv.ErrRange", Rows.laid_strconv_ErrRange), ("strconv.ErrSyntax", Rows.laid_strconv_ErrSyntax), ("seine/letters.shapes", Rows.laid_seine_letters_shapes)]
theorem laid3_of {W : World} (h : laidMetH Tryz.prog allLaid W) : Laid3 W := by
 rw [MakeChecks.laidMetH_plain _ _ _ (by kernel_rfl)] at h
 exact ⟨table (Lib.laidMet.reads h (by simp [allLaid])), error_laid (Lib.laidMet.reads h (by simp [allLaid]))⟩
theorem args_kept {H : Type} {enc : TypeId × Value → H} {W W' : World} (hb : Below W.heap.size W W') : ∀ (ts : List TypeId) (vs : List Value) (ds : List (DataW H)) (ps : List MemPlace),
   (∀ t ∈ ts, Tryz.prog.readableRec t = true ∧ t < Tryz.prog.types.size) → (∀ x ∈ ps, x.block < W.heap.size) →
   DataW.TrodAll enc Tryz.prog W 0 (fun _ => true) true ts vs ds ps → DataW.TrodAll enc Tryz.prog W' 0 (fun b => decide (b < W.heap.size)) true ts vs ds ps
 | [], [], [], _, _, _, h => h
 | t :: ts, v :: vs, d :: ds, ps, hr, hlt, ⟨p, q, h1, h2, e⟩ => by
   subst e
   refine ⟨p, q, ?_, ?_, rfl⟩
   · exact Below.trod laidOut (hr t (by simp)).1 (hr t (by simp)).2 h1 hb (fun x hx => hlt x (by simp [hx]))
   · exact args_kept hb ts vs ds q (fun t' ht' => hr t' (by simp [ht'])) (fun x hx => hlt x (by simp [hx])) h2
 | [], [], _ :: _, _, _, _, h => h.elim
 | [], _ :: _, _, _, _, _, h => h.elim
 | _ :: _, [], _, _, _, _, h => h.elim
 | _ :: _, _ :: _, [], _, _, _, h => h.elim
theorem law_post {H : Type} {enc : TypeId × Value → H} {f : Func} {s : ChangeSpec} {W W' : World} {args : Array Value} {ds gs : List (DataW H)} {before : List MemPlace}
   (hW : DataW.Whole enc Tryz.prog f.params.toList s.vars false W args.toList ds gs before) (hv : s.vars = []) (hf : f.resultTypes = #[4])
   (hr : ∀ t ∈ f.params.toList, Tryz.prog.readableRec t = true ∧ t < Tryz.prog.types.size)
   (hs1 : (s.fn H (ds ++ gs)).results = [.lit (.bool true)]) (hs2 : (s.fn H (ds ++ gs)).args = ds) (hs3 : (s.fn H (ds ++ gs)).vars = []) (hb : Below W.heap.size W W') :
   s.post enc Tryz.prog f false true false false W args (.bool true) W' := by
 have hlt : ∀ x ∈ before, x.block < W.heap.size := fun x hx => hW.lt x hx
 have hW0 := hW
 obtain ⟨p, q, hA, hV, e, _, _⟩ := hW0
 rw [hv] at hV
 obtain ⟨rfl, rfl⟩ := trodVars_none hV
 rw [List.append_nil] at e
 subst e
 refine ⟨ds, [], before, [], before, [], hW, ?_, ?_, ?_, World.keptBut_mono (fun x hx => ⟨hx, .inr (.inl hx)⟩) (hb.frame (· ∈ before)), fun h => by cases h⟩
 · rw [hs1, hf]; exact trodAll_mk1 (shut_bool Tryz.underlying4 _)
 · rw [hs2]; exact args_kept hb _ _ _ _ hr hlt hA
 · rw [hs3, hv]; rfl
noncomputable def laidWorld (os : Os) : World := World.laidAll Tryz.prog os allLaid
theorem laidWorld_met (os : Os) (args : Array Value) : laidMet Tryz.prog allLaid ((laidWorld os).forCall (fun _ _ => 0) ⟨#[], args, []⟩).memory :=
 laidMet_laidAll args (by kernel_rfl) (by kernel_rfl)
def TsAt (w : World) (B : Nat) (A : Option Addr) (n : Nat) (ts : List (Int × ByteArray)) : Prop :=
 ts.length = n ∧ ∀ (j : Nat) t, ts[j]? = some t → ∃ b o, A = some ⟨b, o, none⟩ ∧ b < B ∧ w.cell? ⟨b, o + j * 2, none⟩ = some (.int .i64 t.1) ∧ w.cell? ⟨b, o + j * 2 + 1, none⟩ = some (.string t.2)
theorem TsAt.below {w w' : World} {B : Nat} {A : Option Addr} {n : Nat} {ts : List (Int × ByteArray)} (h : TsAt w B A n ts) (hb : Below B w w') : TsAt w' B A n ts :=
 ⟨h.1, fun j t ht => by
  obtain ⟨b, o, e, hlt, h0, h1⟩ := h.2 j t ht
  exact ⟨b, o, e, hlt, (hb.cell (p := ⟨b, o + j * 2, none⟩) hlt).trans h0, (hb.cell (p := ⟨b, o + j * 2 + 1, none⟩) hlt).trans h1⟩⟩
theorem TsAt.more {w : World} {B B' : Nat} {A : Option Addr} {n : Nat} {ts : List (Int × ByteArray)} (h : TsAt w B A n ts) (hB : B ≤ B') : TsAt w B' A n ts :=
 ⟨h.1, fun j t ht => by
  obtain ⟨b, o, e, hlt, r⟩ := h.2 j t ht
  exact ⟨b, o, e, by omega, r⟩⟩
theorem TsAt.on {w w' : World} {A : Option Addr} {n : Nat} {ts : List (Int × ByteArray)} (h : TsAt w w.heap.size A n ts) (hb : Below w.heap.size w w') : TsAt w' w'.heap.size A n ts := (h.below hb).more hb.size
def bareT (ts : List (Int × ByteArray)) : List (Int × List UInt8) := ts.map fun t => (t.1, t.2.data.toList)
theorem markS_agg (x : ByteArray) : ∃ (a : Int) (b : ByteArray), tokS 1 (x.data.toList.take (markN x.data.toList)) (markN x.data.toList) = .tuple #[.agg #[.int .i64 a, .string b], .int .i64 (markN x.data.toList)] := by
 by_cases h : markN x.data.toList = 0
 · exact ⟨_, _, by rw [h]; rfl⟩
 · exact ⟨_, _, by rw [tokS_yes h]⟩
theorem right1 (x : List UInt8) : rightB (1, x) = decide (0 < markN x ∧ markN x = x.length) := rfl
theorem right2 (x : List UInt8) : rightB (2, x) = nameB x := rfl
theorem right3 (x : List UInt8) : rightB (3, x) = decide (kindL x = 3) := rfl
theorem right4 (x : List UInt8) : rightB (4, x) = decide (kindL x = 4) := rfl
theorem right5 (x : List UInt8) : rightB (5, x) = goodB x := rfl
theorem right_no {k : Int} (x : List UInt8) (h1 : k ≠ 1) (h2 : k ≠ 2) (h3 : k ≠ 3) (h4 : k ≠ 4) (h5 : k ≠ 5) : rightB (k, x) = false := by
 unfold rightB
 simp [h1, h2, h3, h4, h5]
theorem kept_box {w w1 : World} {a b : Value} {t : TypeId} (hb : Below (w.alloc (.cells #[a, b] t)).heap.size (w.alloc (.cells #[a, b] t)) w1) : w1.cell? ⟨w.heap.size, 0, none⟩ = some a ∧ w1.cell? ⟨w.heap.size, 1, none⟩ = some b ∧ Below w.heap.size w w1 :=
 ⟨(hb.cell (p := ⟨w.heap.size, 0, none⟩) (by simp)).trans (by rw [World.cell?_alloc_at _ _ _ _ rfl]; rfl), (hb.cell (p := ⟨w.heap.size, 1, none⟩) (by simp)).trans (by rw [World.cell?_alloc_at _ _ _ _ rfl]; rfl), below_new.trans (hb.mono (by simp))⟩
set_option maxRecDepth 100000 in
set_option maxHeartbeats 1000000 in
theorem right_mark (x : ByteArray) (w : World) : Calls Tryz.prog 58 #[.agg #[.int .i64 1, .string x]] w fun e w' => e = .returned (.bool (rightB (1, x.data.toList))) ∧ Below w.heap.size w w' := by
 have HM := Hd (mark_any x (w.alloc (.cells #[.int .i64 1, .string x] 70)))
 obtain ⟨a, b, hab⟩ := markS_agg x
 rw [hab] at HM
 have hr := right1 x.data.toList
 rw [len_data] at hr
 generalize markN x.data.toList = n at *
 clear hab
 by_cases h0 : (n : Int) > 0
 · by_cases he : n = x.size
   · have e1 : ((n : Int) == (x.size : Int)) = true := by simp; omega
     have HR : Hid (rightB (1, x.data.toList) = true) := Hd (by rw [hr]; simp; omega)
     clear hr
     go_enter Tryz.func58, Tryz.ntmps58
     go_wp2_with fail
     refine HM.out.mono ?_
     rintro e w1 ⟨rfl, hb⟩
     obtain ⟨c0, c1, hB⟩ := kept_box hb
     have hlt := hB.size
     have hlt2 := lt_of_cell c0
     have hne : ¬ w.heap.size = w1.heap.size := by omega
     have HB := Hd hB
     clear hb hB
     go_wp2_with fail
     go_ret
     exact ⟨ret_bb HR.out.symm, HB.out.alloc hlt _⟩
   · have e1 : ((n : Int) == (x.size : Int)) = false := by simp; omega
     have HR : Hid (rightB (1, x.data.toList) = false) := Hd (by rw [hr]; simp; omega)
     clear hr
     go_enter Tryz.func58, Tryz.ntmps58
     go_wp2_with fail
     refine HM.out.mono ?_
     rintro e w1 ⟨rfl, hb⟩
     obtain ⟨c0, c1, hB⟩ := kept_box hb
     have hlt := hB.size
     have hlt2 := lt_of_cell c0
     have hne : ¬ w.heap.size = w1.heap.size := by omega
     have HB := Hd hB
     clear hb hB
     go_wp2_with fail
     go_ret
     exact ⟨ret_bb HR.out.symm, HB.out.alloc hlt _⟩
 · have HR : Hid (rightB (1, x.data.toList) = false) := Hd (by rw [hr]; simp; omega)
   clear hr
   go_enter Tryz.func58, Tryz.ntmps58
   go_wp2_with fail
   refine HM.out.mono ?_
   rintro e w1 ⟨rfl, hb⟩
   obtain ⟨c0, c1, hB⟩ := kept_box hb
   have hlt := hB.size
   have hlt2 := lt_of_cell c0
   have hne : ¬ w.heap.size = w1.heap.size := by omega
   have HB := Hd hB
   clear hb hB
   go_wp2_with fail
   go_ret
   exact ⟨ret_bb HR.out.symm, HB.out.alloc hlt _⟩
set_option maxRecDepth 100000 in
set_option maxHeartbeats 1000000 in
theorem right_name (x : ByteArray) (w : World) (hs : x.size ≤ 9000) : Calls Tryz.prog 58 #[.agg #[.int .i64 2, .string x]] w fun e w' => e = .returned (.bool (rightB (2, x.data.toList))) ∧ Below w.heap.size w w' := by
 rw [right2]
 have HM := Hd (name_any x (w.alloc (.cells #[.int .i64 2, .string x] 70)) (by omega))
 go_enter Tryz.func58, Tryz.ntmps58
 go_wp2_with fail
 refine HM.out.mono ?_
 rintro e w1 ⟨rfl, rfl⟩
 go_wp2_with fail
 go_ret
 exact ⟨rfl, below_new⟩
set_option maxRecDepth 100000 in
set_option maxHeartbeats 1000000 in
theorem right_good (x : ByteArray) (w : World) (hs : x.size ≤ 9000) (h3 : Laid3 w) : Calls Tryz.prog 58 #[.agg #[.int .i64 5, .string x]] w fun e w' => e = .returned (.bool (rightB (5, x.data.toList))) ∧ Below w.heap.size w w' := by
 rw [right5]
 have HM := Hd (good_any x (w.alloc (.cells #[.int .i64 5, .string x] 70)) (by omega) (h3.alloc _).1)
 clear h3
 go_enter Tryz.func58, Tryz.ntmps58
 go_wp2_with fail
 refine HM.out.mono ?_
 rintro e w1 ⟨rfl, hb⟩
 obtain ⟨c0, c1, hB⟩ := kept_box hb
 have HB := Hd hB
 clear hb hB
 go_wp2_with fail
 go_ret
 exact ⟨rfl, HB.out⟩
set_option maxRecDepth 100000 in
set_option maxHeartbeats 1000000 in
theorem right_else (k : Int) (x : ByteArray) (w : World) (k1 : (k == 1) = false) (k2 : (k == 2) = false) (k3 : (k == 3) = false) (k4 : (k == 4) = false) (k5 : (k == 5) = false) : Calls Tryz.prog 58 #[.agg #[.int .i64 k, .string x]] w fun e w' => e = .returned (.bool (rightB (k, x.data.toList))) ∧ Below w.heap.size w w' := by
 rw [right_no _ (by simpa using k1) (by simpa using k2) (by simpa using k3) (by simpa using k4) (by simpa using k5)]
 go_enter Tryz.func58, Tryz.ntmps58
 go_wp2
 go_ret
 exact ⟨rfl, below_new⟩
theorem box_next {w W W' : World} {a b : Value} (hb : Below W.heap.size W W') (h : W.cell? ⟨w.heap.size, 0, none⟩ = some a ∧ W.cell? ⟨w.heap.size, 1, none⟩ = some b ∧ Below w.heap.size w W) : W'.cell? ⟨w.heap.size, 0, none⟩ = some a ∧ W'.cell? ⟨w.heap.size, 1, none⟩ = some b ∧ Below w.heap.size w W' :=
 ⟨(hb.cell (p := ⟨w.heap.size, 0, none⟩) (lt_of_cell h.1)).trans h.1, (hb.cell (p := ⟨w.heap.size, 1, none⟩) (lt_of_cell h.2.1)).trans h.2.1, h.2.2.trans (hb.mono h.2.2.size)⟩
set_option maxRecDepth 100000 in
set_option maxHeartbeats 1000000 in
theorem right_numb (k : Int) (hk : k = 3 ∨ k = 4) (x : ByteArray) (w : World) (hs : x.size ≤ 9000) : Calls Tryz.prog 58 #[.agg #[.int .i64 k, .string x]] w fun e w' => e = .returned (.bool (rightB (k, x.data.toList))) ∧ Below w.heap.size w w' := by
 have HM := Hd (fun w => numberf_any x w hs)
 obtain ⟨z, hz⟩ : ∃ z, kindL x.data.toList = z := ⟨_, rfl⟩
 obtain ⟨t, ht⟩ : ∃ t, (z == k) = t := ⟨_, rfl⟩
 have HR : Hid (rightB (k, x.data.toList) = t) := Hd (by
   rcases hk with rfl | rfl
   · rw [right3, hz, ← ht]; rfl
   · rw [right4, hz, ← ht]; rfl)
 rw [hz] at HM
 clear hz
 have hS0 : (w.alloc (.cells #[.int .i64 k, .string x] 70)).cell? ⟨w.heap.size, 0, none⟩ = some (.int .i64 k) ∧ (w.alloc (.cells #[.int .i64 k, .string x] 70)).cell? ⟨w.heap.size, 1, none⟩ = some (.string x) ∧ Below w.heap.size w (w.alloc (.cells #[.int .i64 k, .string x] 70)) := kept_box (Below.refl _ _)
 have HS0 := Hd hS0
 clear hS0
 rcases hk with rfl | rfl
 · go_enter Tryz.func58, Tryz.ntmps58
   go_wp2_with fail
   have hS0 := HS0.out
   go_region_held3 (fun w' => w'.cell? ⟨w.heap.size, 0, none⟩ = some (.int .i64 3) ∧ w'.cell? ⟨w.heap.size, 1, none⟩ = some (.string x) ∧ Below w.heap.size w w')
     (first
      | exact box_next (Below.drew (Below.refl _ _)) hS0
      | exact box_next (by assumption) (by assumption)
      | exact box_next (by assumption) ⟨by assumption, by assumption, by assumption⟩
      | go_keep)
     ((go_at_call 135; refine (HM.out _).mono ?_; rintro e w' ⟨rfl, hb⟩))
   all_goals (go_wp2_with fail; go_ret; exact ⟨ret_bb HR.out.symm, (And.right (And.right (by assumption : _ ∧ _ ∧ Below w.heap.size w _)))⟩)
 · go_enter Tryz.func58, Tryz.ntmps58
   go_wp2_with fail
   have hS0 := HS0.out
   go_region_held3 (fun w' => w'.cell? ⟨w.heap.size, 0, none⟩ = some (.int .i64 4) ∧ w'.cell? ⟨w.heap.size, 1, none⟩ = some (.string x) ∧ Below w.heap.size w w')
     (first
      | exact box_next (Below.drew (Below.refl _ _)) hS0
      | exact box_next (by assumption) (by assumption)
      | exact box_next (by assumption) ⟨by assumption, by assumption, by assumption⟩
      | go_keep)
     ((go_at_call 135; refine (HM.out _).mono ?_; rintro e w' ⟨rfl, hb⟩))
   all_goals (go_wp2_with fail; go_ret; exact ⟨ret_bb HR.out.symm, (And.right (And.right (by assumption : _ ∧ _ ∧ Below w.heap.size w _)))⟩)
theorem right_any (k : Int) (x : ByteArray) (w : World) (hs : x.size ≤ 9000) (h3 : Laid3 w) : Calls Tryz.prog 58 #[.agg #[.int .i64 k, .string x]] w fun e w' => e = .returned (.bool (rightB (k, x.data.toList))) ∧ Below w.heap.size w w' := by
 by_cases k1 : k = 1
 · subst k1; exact right_mark x w
 by_cases k2 : k = 2
 · subst k2; exact right_name x w hs
 by_cases k34 : k = 3 ∨ k = 4
 · exact right_numb k k34 x w hs
 by_cases k5 : k = 5
 · subst k5; exact right_good x w hs h3
 · exact right_else k x w (by simp; omega) (by simp; omega) (by simp; omega) (by simp; omega) (by simp; omega)
def sumT : List (Int × ByteArray) → Nat
 | [] => 0
 | t :: ts => 1 + t.2.size + sumT ts
theorem sumT_append : ∀ a b : List (Int × ByteArray), sumT (a ++ b) = sumT a + sumT b := by
 intro a b
 induction a with
 | nil => simp [sumT]
 | cons t a ih => simp only [List.cons_append, sumT, ih]; omega
theorem sumT_take (ts : List (Int × ByteArray)) (k : Nat) : sumT (ts.take k) ≤ sumT ts := by
 have := sumT_append (ts.take k) (ts.drop k)
 rw [List.take_append_drop] at this
 omega
theorem sumT_len : ∀ ts : List (Int × ByteArray), ts.length ≤ sumT ts := by
 intro ts
 induction ts with
 | nil => simp
 | cons t ts ih => simp only [List.length_cons, sumT]; omega
def OutAt (b : Nat) (us : List Int) (w : World) : Prop :=
 ∃ v, w.heap[b]? = some (.cells #[v] 202 (0, 0)) ∧ w.ownsRow (b + 1) 3 1 v us.length (us.map (Value.int .i64))
theorem OutAt.lt {b : Nat} {us : List Int} {w : World} (h : OutAt b us w) : b < w.heap.size := by
 obtain ⟨v, hb, _⟩ := h
 rcases Nat.lt_or_ge b w.heap.size with h' | h'
 · exact h'
 · rw [Array.getElem?_eq_none h'] at hb; cases hb
theorem grown_of {w w' : World} (h : Below w.heap.size w w') : w.grownBy w' none := ⟨h.os, h.tape, h.output, h.size, fun i hi _ => h.block i hi⟩
theorem own_none (v : Value) : v.ownBlock = none ∨ v.ownBlock ≠ none := Classical.em _
theorem OutAt.below {b : Nat} {us : List Int} {w w' : World} (h : OutAt b us w) (hb : Below w.heap.size w w') : OutAt b us w' := by
 have hl := h.lt
 obtain ⟨v, h1, h2⟩ := h
 exact ⟨v, (hb.block b hl).trans h1, h2.kept (grown_of hb) (own_none _)⟩
theorem heap_alloc_lt (w : World) (o : Obj) (b : Nat) (h : b < w.heap.size) : (w.alloc o).heap[b]? = w.heap[b]? := Below.heap_alloc w o b h
theorem own_form {w : World} {base : Nat} {e : TypeId} {v : Value} {n : Nat} {xs : List Value} (h : w.ownsRow base e 1 v n xs) : ∃ A cap, v = .slice A n cap := by
 rcases h.2 with ⟨hv, hn⟩ | ⟨g, cap, cur, hv, _⟩
 · exact ⟨none, 0, by rw [hv, hn]⟩
 · exact ⟨_, _, hv⟩
theorem box_kept {w w3 : World} {b n : Nat} {o : Obj} {x v : Value} {e T : TypeId} {xs : List Value} (hb : w.heap[b]? = some (.cells #[x] T (0, 0))) (hlt : b < w.heap.size) (hown : w.ownsRow (b + 1) e 1 v n xs) (hg : (w.alloc o).grownBy w3 v.ownBlock) :
  w3.cell? ⟨b, 0, none⟩ = some x ∧ w3.frozen? ⟨b, 0, none⟩ = false ∧ Hid (w3.heap[b]? = some (.cells #[x] T (0, 0))) := by
 have hb3 : w3.heap[b]? = some (.cells #[x] T (0, 0)) := by
  rw [hg.block b (by simp; omega) (fun e => by have := (hown.lt b e.symm).1; omega), heap_alloc_lt w _ b hlt]
  exact hb
 exact ⟨by simp [World.cell?, hb3], by simp [World.frozen?, hb3], Hd hb3⟩
theorem two_new (w : World) (t : TypeId) (x y : Value) : ∀ (j : Nat) u, [x, y][j]? = some u → (w.alloc (.cells #[x, y] t)).cell? ((⟨w.heap.size, 0, none⟩ : Addr).add j) = some u := by
 intro j u hj
 match j, hj with
 | 0, hj => cases hj; show World.cell? _ ⟨w.heap.size, 0, none⟩ = _; rw [World.cell?_alloc_at _ _ _ _ rfl]; rfl
 | 1, hj => cases hj; show World.cell? _ ⟨w.heap.size, 1, none⟩ = _; rw [World.cell?_alloc_at _ _ _ _ rfl]; rfl
 | j + 2, hj => simp at hj
set_option maxRecDepth 100000 in
theorem unitFn (b : Nat) (us : List Int) (c : Int) (w : World) (hO : OutAt b us w) (hlen : us.length ≤ 100000) (h0 : 0 ≤ c) (h1 : c ≤ 1114111) :
   Calls Tryz.prog 252 #[.int .i64 c, .pointer (some ⟨b, 0, none⟩)] w fun e w' => e = .returned (.bool true) ∧ OutAt b (us ++ unitOf c) w' ∧ Below b w w' := by
 have hi9 : (Tryz.prog.info? 3).map (fun i => (i.zero, i.size, i.bytes)) = some (some (.int .i64 0), 1, 8) := by kernel_rfl
 obtain ⟨i0, hi, hx⟩ := Option.map_eq_some_iff.1 hi9
 simp only [Prod.mk.injEq] at hx
 obtain ⟨hz0, hz1, hz2⟩ := hx
 clear hi9
 have hlt := hO.lt
 obtain ⟨v, hb, hown⟩ := hO
 obtain ⟨A, cap, rfl⟩ := own_form hown
 have c0 : w.cell? ⟨b, 0, none⟩ = some (.slice A us.length cap) := by simp [World.cell?, hb]
 by_cases h6 : 65536 ≤ c
 · have g1 : 0 ≤ c - 65536 := by omega
   have g2 : c - 65536 ≤ 1048575 := by omega
   have hu : Hid (unitOf c = [55296 + (c - 65536) / 1024, 56320 + (c - 65536) % 1024]) := Hd (by unfold unitOf; rw [if_neg (by omega)])
   have HB := Hd hb
   clear hb
   go_enter Tryz.func252, Tryz.ntmps252
   go_wp2_with (at_builtin; refine wpList_append_own _ rfl _ _ 202 rfl (b + 1) 3 i0 (.int .i64 0) 1 8 Tryz.underlying202 hi hz0 hz1 hz2 rfl (by decide) _ _ _ rfl (hown.alloc _) ⟨w.heap.size, 0, none⟩ 2 2 [.int .i64 (55296 + (c - 65536) / 1024), .int .i64 (56320 + (c - 65536) % 1024)] rfl rfl (two_new _ _ _ _) (by intro x hx; simp at hx; rcases hx with rfl | rfl <;> rfl) (by unfold maxLen; omega) (by omega) (by simp; omega) ?_; intro v' w3 hown' hgrow _; obtain ⟨A', cap', rfl⟩ := own_form hown'; obtain ⟨c3, f3, HB3⟩ := box_kept HB.out hlt hown hgrow; have HG := Hd hgrow; have HO := Hd hown'; have HW := Hd hown; clear hgrow hown' hown)
   go_ret
   refine ⟨rfl, ⟨.slice A' (us.length + 2) cap', ?_, ?_⟩, ?_⟩
   · simp [World.setCell, Array.getElem?_modify, HB3.out]
   · rw [hu.out, List.map_append, List.length_append]
     exact ownsRow_setCell_below HO.out (a := ⟨b, 0, none⟩) (by simp) _
   · exact ((((Below.refl _ _).alloc (by omega) _).grown HG.out (by simp; omega) (fun k hk => by have := (HW.out.lt k hk).1; omega)).setCell (by simp) _)
 · have hu : Hid (unitOf c = [c]) := Hd (by unfold unitOf; rw [if_pos (by omega)])
   have HB := Hd hb
   clear hb
   go_enter Tryz.func252, Tryz.ntmps252
   go_wp2_with (at_builtin; refine wpList_append_own _ rfl _ _ 202 rfl (b + 1) 3 i0 (.int .i64 0) 1 8 Tryz.underlying202 hi hz0 hz1 hz2 rfl (by decide) _ _ _ rfl (hown.alloc _) ⟨w.heap.size, 0, none⟩ 1 1 [.int .i64 c] rfl rfl (cell_one_new _ _ _) (by intro x hx; simp at hx; rcases hx with rfl; rfl) (by unfold maxLen; omega) (by omega) (by simp; omega) ?_; intro v' w3 hown' hgrow _; obtain ⟨A', cap', rfl⟩ := own_form hown'; obtain ⟨c3, f3, HB3⟩ := box_kept HB.out hlt hown hgrow; have HG := Hd hgrow; have HO := Hd hown'; have HW := Hd hown; clear hgrow hown' hown)
   go_ret
   refine ⟨rfl, ⟨.slice A' (us.length + 1) cap', ?_, ?_⟩, ?_⟩
   · simp [World.setCell, Array.getElem?_modify, HB3.out]
   · rw [hu.out, List.map_append, List.length_append]
     exact ownsRow_setCell_below HO.out (a := ⟨b, 0, none⟩) (by simp) _
   · exact ((((Below.refl _ _).alloc (by omega) _).grown HG.out (by simp; omega) (fun k hk => by have := (HW.out.lt k hk).1; omega)).setCell (by simp) _)
def UnitsTo (l : List UInt8) (k : Nat) (b : Nat) (w : World) : Prop := ∃ cs, cs.length ≤ k ∧ OutAt b (unitsOf cs) w ∧ (codes (l.drop k)).map (fun r => cs ++ r) = codes l
theorem unitsOf_len : ∀ cs : List Int, (unitsOf cs).length ≤ 2 * cs.length := by
 intro cs
 induction cs with
 | nil => simp [unitsOf]
 | cons c cs ih =>
   show (unitOf c ++ unitsOf cs).length ≤ _
   rw [List.length_append, List.length_cons]
   have : (unitOf c).length ≤ 2 := by unfold unitOf; split <;> simp
   omega
theorem unitsOf_snoc (cs : List Int) (c : Int) : unitsOf (cs ++ [c]) = unitsOf cs ++ unitOf c := by simp [unitsOf]
set_option maxRecDepth 100000 in
set_option maxHeartbeats 1000000 in
theorem each_units (s : ByteArray) (b : Nat) (w : World) (hs : s.size ≤ 9000) (ht : TabAt w) (h0 : OutAt b [] w) (hgb : 1 < b) :
  Calls Tryz.prog 201 #[.string s, .func (.func 252) #[] #[.pointer (some ⟨b, 0, none⟩)]] w fun e w' =>
    e = .returned (.bool (goodB s.data.toList)) ∧ Below b w w' ∧ (∃ cs, OutAt b (unitsOf cs) w' ∧ (goodB s.data.toList = true → codes s.data.toList = some cs)) := by
 have HT := Hd ht
 clear ht
 have he := enters_of Tryz.func252 (by kernel_rfl) rfl
 have hlen : s.data.toList.length = s.size := Array.length_toList
 have HL := Hd hlen
 clear hlen
 go_enter Tryz.func201, Tryz.ntmps201
 go_wp2
 go_loopg [5] s.size (fun g i wx => ∃ k : Nat, k + g = s.size ∧ i = .int .i64 k ∧ Below b w wx ∧ Aside (UnitsTo s.data.toList k b wx))
 case atStart => exact ⟨0, by omega, rfl, Below.refl _ _, Aside.intro ⟨[], by simp, h0, by simp⟩⟩
 case round =>
  obtain ⟨k, hk, rfl, hb, H⟩ := hrel
  cases gk with
  | zero =>
    obtain rfl : k = s.size := by omega
    obtain ⟨cs, hcl, hO, hE⟩ := H.out
    have hc : codes s.data.toList = some cs := by rw [← hE, List.drop_eq_nil_of_le (by rw [HL.out]; omega)]; simp [codes_nil]
    have h2 : Hid (goodB s.data.toList = true) := Hd (by rw [goodB_iff, hc]; rfl)
    have hX := Hd (⟨cs, hO, fun _ => hc⟩ : ∃ cs, OutAt b (unitsOf cs) wr ∧ (goodB s.data.toList = true → codes s.data.toList = some cs))
    clear H hO hE hc
    go_wp2
    go_ret
    exact ⟨ret_bool h2.out.symm, hb, hX.out⟩
  | succ g =>
    have hlt : k < s.size := by omega
    have hlt' : (k : Int) < (s.size : Int) := by omega
    have hne : Hid (s.data.toList.drop k ≠ []) := Hd (fun e => by have := congrArg List.length e; rw [List.length_drop, HL.out] at this; simp at this; omega)
    have hdl : Hid ((s.data.toList.drop k).length = s.size - k) := Hd (by rw [List.length_drop, HL.out])
    have hbd := dec_bd (s.data.toList.drop k)
    have hcode := code_in s k wr (by omega) hlt (HT.out.below hb hgb)
    have hst := Hd (codes_step (l := s.data.toList.drop k) hne.out)
    have hbad := Hd (codes_bad (l := s.data.toList.drop k) hne.out)
    generalize dec (s.data.toList.drop k) = d at *
    obtain ⟨c, n⟩ := d
    simp only at hbd hcode hst hbad
    obtain ⟨b1, b2, b3, b4, b5, b6⟩ := hbd
    rw [hdl.out] at b3
    have HC := Hd hcode
    clear hcode b6
    by_cases hn : n = 0
    · obtain ⟨cs, hcl, hO, hE⟩ := H.out
      have hc : codes s.data.toList = none := by rw [← hE, hbad.out hn]; rfl
      have h2 : Hid (goodB s.data.toList = false) := Hd (by rw [goodB_iff, hc]; rfl)
      have HO := Hd hO
      have z0 : (n == 0) = true := by simp [hn]
      clear H hst hbad hn hO hE hc
      go_wp2_with fail
      refine HC.out.mono ?_
      rintro e w1 ⟨rfl, hb1⟩
      go_wp2_with fail
      go_ret
      exact ⟨ret_bool h2.out.symm, hb.trans (hb1.mono (by have := HO.out.lt; omega)), ⟨cs, HO.out.below hb1, fun h => by rw [h2.out] at h; cases h⟩⟩
    · have z0 : (n == 0) = false := by simp [hn]
      obtain ⟨cs, hcl, hO, hE⟩ := H.out
      have hE' : Hid ((codes ((s.data.toList.drop k).drop n.toNat)).map (fun r => (cs ++ [c]) ++ r) = codes s.data.toList) := Hd (by
       rw [← hE, hst.out hn, Option.map_map]
       congr 1
       funext r
       simp)
      have HO := Hd hO
      have hn1 : 1 ≤ n := by omega
      have hul := unitsOf_len cs
      clear H hst hbad hn hO hE
      go_wp2_with fail
      refine HC.out.mono ?_
      rintro e w1 ⟨rfl, hb1⟩
      go_wp2_with fail
      refine (unitFn b (unitsOf cs) c w1 (HO.out.below hb1) (by omega) b4 b5).mono ?_
      rintro e w2 ⟨rfl, hO2, hb2⟩
      have hbl : Below b wr w2 := (hb1.mono (by have := HO.out.lt; omega)).trans hb2
      go_wp2_with fail
      obtain ⟨m, rfl⟩ := Int.eq_ofNat_of_zero_le b1
      go_roundg (s.size - (k + m))
      case measure => omega
      case rel => exact ⟨k + m, by omega, by go_num, hb.trans hbl, Aside.intro ⟨cs ++ [c], by rw [List.length_append]; simp; omega, by rw [unitsOf_snoc]; exact hO2, by rw [← hE'.out, List.drop_drop]; rfl⟩⟩
def unitsS (l : List UInt8) : List Int := match codes l with | some cs => unitsOf cs | none => []
def IntsRow (w : World) (A : Option Addr) (n : Nat) (zs : List Int) : Prop :=
 zs.length = n ∧ (zs = [] ∨ ∃ g c fz, A = some ⟨g, 0, none⟩ ∧ w.heap[g]? = some (.cells c 3 fz) ∧ ∀ (j : Nat) z, zs[j]? = some z → c[j]? = some (.int .i64 z))
theorem IntsRow.at {w : World} {A : Option Addr} {n : Nat} {zs : List Int} (h : IntsRow w A n zs) {j : Nat} {z : Int} (hz : zs[j]? = some z) : ∃ g o, A = some ⟨g, o, none⟩ ∧ w.cell? ⟨g, o + j, none⟩ = some (.int .i64 z) := by
 rcases h.2 with rfl | ⟨g, c, fz, e, hh, hc⟩
 · simp at hz
 · exact ⟨g, 0, e, by simp [World.cell?, hh, hc j z hz]⟩
theorem row_of_own {w : World} {base n : Nat} {A : Option Addr} {cap : Nat} {us : List Int} (h : w.ownsRow base 3 1 (.slice A n cap) us.length (us.map (Value.int .i64))) : IntsRow w A us.length us := by
 have h0 := h
 rcases h.2 with ⟨hv, hn⟩ | ⟨g, c, cur, hv, hbase, hh, hnc, hm, hcs, htk⟩
 · exact ⟨rfl, .inl (List.eq_nil_of_length_eq_zero hn)⟩
 · injection hv with h1 h2 h3
   subst h1 h2 h3
   refine ⟨rfl, .inr ⟨g, cur, _, rfl, hh, fun j z hz => ?_⟩⟩
   have := World.ownsRow.cellAt h0 j (by have := (List.getElem?_eq_some_iff.1 hz).1; omega)
   rw [List.getElem?_map, hz] at this
   simpa [World.cell?, hh] using this
theorem IntsRow.kept {w w' : World} {A : Option Addr} {n b B : Nat} {zs : List Int} {bs : List Value} (h : IntsRow w A n zs) (hB : Lib.IsBuilderF 102 5 B b bs w) (ho : Lib.OthersKept 5 (some b) w w') : IntsRow w' A n zs := by
 refine ⟨h.1, h.2.imp_right fun ⟨g, c, fz, e, hh, hc⟩ => ⟨g, c, fz, e, ho g _ hh ?_ ?_, hc⟩⟩
 · intro e1
   injection e1 with e1
   subst e1
   rcases hB with ⟨_, v, hb, _⟩ | ⟨_, v, hb, _⟩ <;> (rw [hh] at hb; injection hb with hb; injection hb with _ h2 _; exact absurd h2 (by decide))
 · intro c' fz' e1
   injection e1 with _ h2 _
   exact absurd h2 (by decide)
set_option maxRecDepth 100000 in
theorem units_row (s : ByteArray) (w : World) (hs : s.size ≤ 9000) (ht : TabAt w) :
   Calls Tryz.prog 205 #[.string s] w fun e w' => ∃ A c, e = .returned (.tuple #[.slice A (unitsS s.data.toList).length c, .bool (goodB s.data.toList)]) ∧ IntsRow w' A (unitsS s.data.toList).length (unitsS s.data.toList) ∧ Below w.heap.size w w' := by
 have hmf : ∀ (fn : Fn) (first cap : Array Value) (w : World), (Instr.makeFunc fn first cap).run Tryz.prog w = .ok (.func fn first cap) w := fun _ _ _ _ => rfl
 have hO : OutAt w.heap.size [] (w.alloc (.cells #[.slice none 0 0] 202)) := ⟨.slice none 0 0, heap_alloc_new w _, World.ownsRow_nil _ _ _ _⟩
 have hb0 : Below w.heap.size w (w.alloc (.cells #[.slice none 0 0] 202)) := (Below.refl _ _).alloc (Nat.le_refl _) _
 have HE := Hd (each_units s w.heap.size (w.alloc (.cells #[.slice none 0 0] 202)) hs (ht.below hb0 ht.lt) hO ht.lt)
 have HB0 := Hd hb0
 clear ht hO hb0
 go_enter Tryz.func205, Tryz.ntmps205
 go_wp2_with fail
 refine HE.out.mono ?_
 rintro e w1 ⟨rfl, hb, cs, hO, hcs⟩
 have hB : Hid (Below w.heap.size w w1) := Hd (HB0.out.trans hb)
 cases hg : goodB s.data.toList
 · have HG := Hd hg
   have hu : Hid (unitsS s.data.toList = []) := Hd (by
    rw [goodB_iff] at hg
    unfold unitsS
    cases hc : codes s.data.toList with
    | none => rfl
    | some cs => rw [hc] at hg; cases hg)
   clear hcs hO hb hg
   go_wp2_with fail
   go_ret2
   exact ⟨none, 0, by rw [hu.out, HG.out]; rfl, by rw [hu.out]; exact ⟨rfl, .inl rfl⟩, hB.out⟩
 · have HG := Hd hg
   have hu : Hid (unitsS s.data.toList = unitsOf cs) := Hd (by unfold unitsS; rw [hcs hg])
   obtain ⟨v, hh, hown⟩ := hO
   obtain ⟨A, cap, rfl⟩ := own_form hown
   have c0 : w1.cell? ⟨w.heap.size, 0, none⟩ = some (.slice A (unitsOf cs).length cap) := by simp [World.cell?, hh]
   have hI := Hd (row_of_own hown)
   clear hcs hh hown hb hg
   go_wp2_with fail
   go_ret2
   exact ⟨A, cap, by rw [hu.out, HG.out]; rfl, by rw [hu.out]; exact hI.out, hB.out⟩
abbrev hexC : ByteArray := ⟨#[48, 49, 50, 51, 52, 53, 54, 55, 56, 57, 97, 98, 99, 100, 101, 102]⟩
set_option maxRecDepth 100000 in
theorem hex_index {d : Nat} (h : d < 16) : ∀ w, (Instr.index 9 (.string hexC) (.int .i64 (d : Int))).run Tryz.prog w = .ok (.int .u8 ((hexD (d : Int)).toNat : Int)) w := by
 rcases (by omega : d = 0 ∨ d = 1 ∨ d = 2 ∨ d = 3 ∨ d = 4 ∨ d = 5 ∨ d = 6 ∨ d = 7 ∨ d = 8 ∨ d = 9 ∨ d = 10 ∨ d = 11 ∨ d = 12 ∨ d = 13 ∨ d = 14 ∨ d = 15) with rfl | rfl | rfl | rfl | rfl | rfl | rfl | rfl | rfl | rfl | rfl | rfl | rfl | rfl | rfl | rfl
 all_goals exact fun w => by kernel_rfl
theorem others_below {b : Option Nat} {w w' : World} (h : Below w.heap.size w w') : Lib.OthersKept 5 b w w' := fun k o hk _ _ => by
 have hlt : k < w.heap.size := (Array.getElem?_eq_some_iff.1 hk).1
 rw [h.block k hlt, hk]
abbrev IsB (B b : Nat) (l : List UInt8) (w : World) : Prop := Lib.IsBuilderF 102 5 B b (Lib.byteCells l) w
theorem isB_byte {B b : Nat} {l : List UInt8} {x : UInt8} {w : World} {p : Value} (hp : p = .pointer (some ⟨b, 0, none⟩)) (h : Lib.BuilderAtF 102 5 B b p (Lib.byteCells l ++ [.int .u8 (x.toNat : Int)]) w) : IsB B b (l ++ [x]) w := by
 subst hp
 refine .inr ?_
 rwa [show Lib.byteCells l ++ [Value.int .u8 (x.toNat : Int)] = Lib.byteCells (l ++ [x]) by simp [Lib.byteCells]] at h
theorem isB_str {B b : Nat} {l x : List UInt8} {w : World} {p : Value} (hp : p = .pointer (some ⟨b, 0, none⟩)) (h : Lib.BuilderAtF 102 5 B b p (Lib.byteCells l ++ Lib.strCells ⟨x.toArray⟩) w) : IsB B b (l ++ x) w := by
 subst hp
 refine .inr ?_
 rwa [show Lib.byteCells l ++ Lib.strCells ⟨x.toArray⟩ = Lib.byteCells (l ++ x) by rw [Lib.strCells_eq]; simp [Lib.byteCells]] at h
theorem write1 (B b : Nat) (l : List UInt8) (x : UInt8) (w : World) (h : IsB B b l w) (hl : l.length ≤ 1400000) (hB : B ≤ w.heap.size) :
  Calls Tryz.prog 59 #[.pointer (some ⟨b, 0, none⟩), .int .u8 (x.toNat : Int)] w fun e w' => e = .returned .nilIface ∧ IsB B b (l ++ [x]) w' ∧ Below B w w' ∧ Lib.OthersKept 5 (some b) w w' :=
 (writeByte B b (Lib.byteCells l) (x.toNat : Int) w h (by rw [Lib.byteCells_length]; omega) hB).mono fun _ _ ⟨he, h1, h2, h3⟩ => ⟨he, isB_byte rfl h1, h2, h3⟩
theorem writeS (B b : Nat) (l x : List UInt8) (w : World) (h : IsB B b l w) (hl : l.length ≤ 1400000) (hx : x.length ≤ 1400000) (hB : B ≤ w.heap.size) :
  Calls Tryz.prog 61 #[.pointer (some ⟨b, 0, none⟩), .string ⟨x.toArray⟩] w fun e w' => e = .returned (.tuple #[.int .i64 (x.length : Nat), .nilIface]) ∧ IsB B b (l ++ x) w' ∧ Below B w w' ∧ Lib.OthersKept 5 (some b) w w' :=
 (writeString B b (Lib.byteCells l) ⟨x.toArray⟩ w h (by rw [Lib.byteCells_length, size_mk]; omega) hB).mono fun _ _ ⟨he, h1, h2, h3⟩ => ⟨by rw [he, size_mk], isB_str rfl h1, h2, h3⟩
set_option maxRecDepth 100000 in
set_option maxHeartbeats 4000000 in
theorem writeUnits_any (B b : Nat) (done : List UInt8) (s : ByteArray) (w : World) (h : IsB B b done w) (hs : s.size ≤ 4000) (hd : done.length ≤ 1300000) (hB : B ≤ w.heap.size) (ht : TabAt w) (hu : (unitsS s.data.toList).length ≤ 4000) (hr : ∀ z ∈ unitsS s.data.toList, 0 ≤ z ∧ z ≤ 65535) :
  Calls Tryz.prog 141 #[.pointer (some ⟨b, 0, none⟩), .string s] w fun e w' => e = .returned (.tuple #[]) ∧ IsB B b (done ++ (unitsS s.data.toList).flatMap hexText) w' ∧ Below B w w' ∧ Lib.OthersKept 5 (some b) w w' := by
 have HU := Hd (units_row s w (by omega) ht)
 generalize unitsS s.data.toList = us at *
 have HR := Hd hr
 have HI := Hd h
 clear ht hr h
 go_enter Tryz.func141, Tryz.ntmps141
 go_wp2_with fail
 refine HU.out.mono ?_
 rintro e w1 ⟨A, c, rfl, hI, hb1⟩
 have HI1 := Hd hI
 have HB1 := Hd (builder_below HI.out hb1 : IsB B b done w1)
 have HBb := Hd (hb1.mono hB)
 have HO := Hd (others_below (b := some b) hb1)
 have hs1 := hb1.size
 clear hI hb1 HU
 go_wp2
 go_loopg [16] us.length (fun g i wx => ∃ k : Nat, k + g = us.length ∧ i = .int .i64 k ∧ Aside (IsB B b (done ++ (us.take k).flatMap hexText) wx) ∧ Below B w1 wx ∧ Aside (Lib.OthersKept 5 (some b) w1 wx))
 case atStart => exact ⟨0, by omega, rfl, Aside.intro (by simpa using HB1.out), Below.refl _ _, Aside.intro (Lib.OthersKept.refl _ _ _)⟩
 case round =>
  obtain ⟨k, hk, rfl, HX, hb, HY⟩ := hrel
  have hbs := hb.size
  have HBx := Hd hb
  clear hb
  by_cases hlt : k < us.length
  · have hlt' : (k : Int) < (us.length : Int) := by omega
    have hk0 : (0 : Int) ≤ (k : Int) := by omega
    obtain ⟨z, hz⟩ : ∃ z, us[k]? = some z := ⟨_, List.getElem?_eq_getElem hlt⟩
    obtain ⟨gA, oA, rfl, c0⟩ := (HI1.out.kept HB1.out HY.out).at hz
    have hzr := HR.out z (List.mem_of_getElem? hz)
    have HK : Hid (done ++ (us.take (k + 1)).flatMap hexText = (done ++ (us.take k).flatMap hexText) ++ hexText z) := Hd (by rw [take_text hz, List.append_assoc])
    have hlen : (done ++ (us.take k).flatMap hexText).length ≤ 1350000 := by
     rw [List.length_append, text_len, List.length_take]; omega
    have HW := Hd (writeS B b (done ++ (us.take k).flatMap hexText) [92, 117] wr HX.out (by omega) (by decide) (by omega))
    generalize done ++ (us.take k).flatMap hexText = pre0 at *
    clear hz HX
    go_wp2_with fail
    refine HW.out.mono ?_
    rintro e w2 ⟨rfl, hX2, hb2, ho2⟩
    have HX2 := Hd hX2
    have HO2 := Hd ho2
    have HB2 := Hd (HBx.out.trans hb2)
    have hs2 : w1.heap.size ≤ w2.heap.size := by have := hb2.size; omega
    have HOx := Hd (HY.out.trans ho2)
    clear hX2 hb2 ho2 HY HW
    go_wp2_with fail
    go_loopg [8] 4 (fun g2 kv wx => ∃ (j : Nat) (kk : Int), j + g2 = 4 ∧ kv = .int .i64 kk ∧ kk = 12 - 4 * (j : Int) ∧ Aside (IsB B b (pre0 ++ (hexText z).take (2 + j)) wx) ∧ Below B w1 wx ∧ Aside (Lib.OthersKept 5 (some b) w1 wx))
    case atStart => exact ⟨0, 12, by omega, rfl, rfl, Aside.intro HX2.out, HB2.out, Aside.intro HOx.out⟩
    case round =>
     obtain ⟨j, kk, hj, rfl, hkk, HX3, hb3, HY3⟩ := hrel
     have hs3 := hb3.size
     have HB3 := Hd hb3
     clear hb3
     rcases (by omega : j = 0 ∨ j = 1 ∨ j = 2 ∨ j = 3 ∨ j = 4) with rfl | rfl | rfl | rfl | rfl
     · obtain rfl : kk = 12 := by omega
       clear hkk
       obtain ⟨d, hd⟩ : ∃ d : Nat, z / 4096 % 16 = d := ⟨(z / 4096 % 16).toNat, by omega⟩
       have hd16 : d < 16 := by omega
       have e1 : bits .and .i64 (z / 4096) 15 = (d : Int) := by rw [and_low4 (by omega) (by omega)]; exact hd
       have s1 := hex_index hd16
       have HW := Hd (write1 B b (pre0 ++ (hexText z).take (2 + 0)) (hexD (d : Int)) wr HX3.out (by rw [List.length_append]; simp [hexText]; omega) (by omega))
       have HD : Hid ((pre0 ++ (hexText z).take (2 + 0)) ++ [hexD (d : Int)] = pre0 ++ (hexText z).take (2 + 1)) := Hd (by
        rw [← hd, List.append_assoc]
        rfl)
       clear HX3 hd
       go_wp2_with fail
       refine HW.out.mono ?_
       rintro e w3 ⟨rfl, hX4, hb4, ho4⟩
       have HX4 := Hd hX4
       have HB4 := Hd (HB3.out.trans hb4)
       have HO4 := Hd (HY3.out.trans ho4)
       clear hX4 hb4 ho4 HW
       go_wp2_with fail
       go_roundg (gk - 1)
       case measure => omega
       case rel => exact ⟨1, 8, by omega, by go_num, by omega, Aside.intro (by rw [← HD.out]; exact HX4.out), HB4.out, Aside.intro HO4.out⟩
     · obtain rfl : kk = 8 := by omega
       clear hkk
       obtain ⟨d, hd⟩ : ∃ d : Nat, z / 256 % 16 = d := ⟨(z / 256 % 16).toNat, by omega⟩
       have hd16 : d < 16 := by omega
       have e1 : bits .and .i64 (z / 256) 15 = (d : Int) := by rw [and_low4 (by omega) (by omega)]; exact hd
       have s1 := hex_index hd16
       have HW := Hd (write1 B b (pre0 ++ (hexText z).take (2 + 1)) (hexD (d : Int)) wr HX3.out (by rw [List.length_append]; simp [hexText]; omega) (by omega))
       have HD : Hid ((pre0 ++ (hexText z).take (2 + 1)) ++ [hexD (d : Int)] = pre0 ++ (hexText z).take (2 + 2)) := Hd (by
        rw [← hd, List.append_assoc]
        rfl)
       clear HX3 hd
       go_wp2_with fail
       refine HW.out.mono ?_
       rintro e w3 ⟨rfl, hX4, hb4, ho4⟩
       have HX4 := Hd hX4
       have HB4 := Hd (HB3.out.trans hb4)
       have HO4 := Hd (HY3.out.trans ho4)
       clear hX4 hb4 ho4 HW
       go_wp2_with fail
       go_roundg (gk - 1)
       case measure => omega
       case rel => exact ⟨2, 4, by omega, by go_num, by omega, Aside.intro (by rw [← HD.out]; exact HX4.out), HB4.out, Aside.intro HO4.out⟩
     · obtain rfl : kk = 4 := by omega
       clear hkk
       obtain ⟨d, hd⟩ : ∃ d : Nat, z / 16 % 16 = d := ⟨(z / 16 % 16).toNat, by omega⟩
       have hd16 : d < 16 := by omega
       have e1 : bits .and .i64 (z / 16) 15 = (d : Int) := by rw [and_low4 (by omega) (by omega)]; exact hd
       have s1 := hex_index hd16
       have HW := Hd (write1 B b (pre0 ++ (hexText z).take (2 + 2)) (hexD (d : Int)) wr HX3.out (by rw [List.length_append]; simp [hexText]; omega) (by omega))
       have HD : Hid ((pre0 ++ (hexText z).take (2 + 2)) ++ [hexD (d : Int)] = pre0 ++ (hexText z).take (2 + 3)) := Hd (by
        rw [← hd, List.append_assoc]
        rfl)
       clear HX3 hd
       go_wp2_with fail
       refine HW.out.mono ?_
       rintro e w3 ⟨rfl, hX4, hb4, ho4⟩
       have HX4 := Hd hX4
       have HB4 := Hd (HB3.out.trans hb4)
       have HO4 := Hd (HY3.out.trans ho4)
       clear hX4 hb4 ho4 HW
       go_wp2_with fail
       go_roundg (gk - 1)
       case measure => omega
       case rel => exact ⟨3, 0, by omega, by go_num, by omega, Aside.intro (by rw [← HD.out]; exact HX4.out), HB4.out, Aside.intro HO4.out⟩
     · obtain rfl : kk = 0 := by omega
       clear hkk
       obtain ⟨d, hd⟩ : ∃ d : Nat, z % 16 = d := ⟨(z % 16).toNat, by omega⟩
       have hd16 : d < 16 := by omega
       have e1 : bits .and .i64 z 15 = (d : Int) := by rw [and_low4 (by omega) (by omega)]; exact hd
       have s1 := hex_index hd16
       have HW := Hd (write1 B b (pre0 ++ (hexText z).take (2 + 3)) (hexD (d : Int)) wr HX3.out (by rw [List.length_append]; simp [hexText]; omega) (by omega))
       have HD : Hid ((pre0 ++ (hexText z).take (2 + 3)) ++ [hexD (d : Int)] = pre0 ++ (hexText z).take (2 + 4)) := Hd (by
        rw [← hd, List.append_assoc]
        rfl)
       clear HX3 hd
       go_wp2_with fail
       refine HW.out.mono ?_
       rintro e w3 ⟨rfl, hX4, hb4, ho4⟩
       have HX4 := Hd hX4
       have HB4 := Hd (HB3.out.trans hb4)
       have HO4 := Hd (HY3.out.trans ho4)
       clear hX4 hb4 ho4 HW
       go_wp2_with fail
       go_roundg (gk - 1)
       case measure => omega
       case rel => exact ⟨4, -4, by omega, by go_num, by omega, Aside.intro (by rw [← HD.out]; exact HX4.out), HB4.out, Aside.intro HO4.out⟩
     · obtain rfl : kk = -4 := by omega
       clear hkk
       have HD : Hid (pre0 ++ (hexText z).take (2 + 4) = pre0 ++ hexText z) := Hd rfl
       go_wp2_with fail
       go_roundg (us.length - (k + 1))
       case measure => omega
       case rel => exact ⟨k + 1, by omega, by go_num, Aside.intro (by rw [HK.out, ← HD.out]; exact HX3.out), HB3.out, Aside.intro HY3.out⟩
  · obtain rfl : k = us.length := by omega
    have HX' := Hd HX.out
    rw [List.take_of_length_le (Nat.le_refl _)] at HX'
    go_wp2
    go_end0
    exact ⟨rfl, HX'.out, HBb.out.trans HBx.out, HO.out.trans HY.out⟩
theorem decN1 {n x0 x1 x2 x3 c : Nat} (h0 : x0 = c) (hc : c ≤ 127) : Lib.decodeN n x0 x1 x2 x3 = (c, 1) := by
 unfold Lib.decodeN
 rw [if_pos (by omega), h0]
theorem decN2 {n x0 x1 x2 x3 c : Nat} (hn : 2 ≤ n) (h0 : x0 = 192 + c / 64) (h1 : x1 = 128 + c % 64) (hc : 128 ≤ c) (hc' : c ≤ 2047) : Lib.decodeN n x0 x1 x2 x3 = (c, 2) := by
 unfold Lib.decodeN
 rw [if_neg (by omega), if_pos (by omega), if_pos (by omega)]
 congr 1
 omega
theorem decN3 {n x0 x1 x2 x3 c : Nat} (hn : 3 ≤ n) (h0 : x0 = 224 + c / 4096) (h1 : x1 = 128 + c / 64 % 64) (h2 : x2 = 128 + c % 64) (hc : 2048 ≤ c) (hc' : c ≤ 65535) (hh : ¬ (55296 ≤ c ∧ c ≤ 57343)) : Lib.decodeN n x0 x1 x2 x3 = (c, 3) := by
 have e : x0 % 16 * 4096 + x1 % 64 * 64 + x2 % 64 = c := by omega
 unfold Lib.decodeN
 rw [e, if_neg (by omega), if_neg (by omega), if_pos (by omega), if_pos (by omega)]
theorem decN4 {n x0 x1 x2 x3 c : Nat} (hn : 4 ≤ n) (h0 : x0 = 240 + c / 262144) (h1 : x1 = 128 + c / 4096 % 64) (h2 : x2 = 128 + c / 64 % 64) (h3 : x3 = 128 + c % 64) (hc : 65536 ≤ c) (hc' : c ≤ 1114111) : Lib.decodeN n x0 x1 x2 x3 = (c, 4) := by
 have e : x0 % 8 * 262144 + x1 % 64 * 4096 + x2 % 64 * 64 + x3 % 64 = c := by omega
 unfold Lib.decodeN
 rw [e, if_neg (by omega), if_neg (by omega), if_neg (by omega), if_pos (by omega), if_pos (by omega)]
theorem decL_enc {c : Int} (h : okB c = true) (t : List UInt8) : Lib.decodeL (Lib.encodeRune c ++ t) = (c.toNat, (Lib.encodeRune c).length) := by
 have hok : 0 ≤ c ∧ c ≤ 1114111 ∧ halfB c = false := by simpa [okB] using h
 obtain ⟨h0, h1, h2⟩ := hok
 have hh : ¬ (55296 ≤ c ∧ c ≤ 57343) := by simpa [halfB] using h2
 rw [Lib.decodeL_N]
 by_cases a1 : c ≤ 127
 · have e : Lib.encodeRune c = [c.toNat.toUInt8] := by simp [Lib.encodeRune, Lib.encodeRuneZ_one h0 a1]
   rw [e]
   have b0 : byt ([c.toNat.toUInt8] ++ t) 0 = c := toNat_ofInt h0 (by omega)
   unfold byt at b0
   generalize [c.toNat.toUInt8] ++ t = l at *
   exact decN1 (by omega) (by omega)
 by_cases a2 : c ≤ 2047
 · have e : Lib.encodeRune c = [(192 + c / 64).toNat.toUInt8, (128 + c % 64).toNat.toUInt8] := by simp [Lib.encodeRune, Lib.encodeRuneZ_two (by omega) a2]
   rw [e]
   generalize hx : (192 + c / 64).toNat.toUInt8 = x
   generalize hy : (128 + c % 64).toNat.toUInt8 = y
   have b0 : byt ([x, y] ++ t) 0 = 192 + c / 64 := by rw [← hx]; exact toNat_ofInt (by omega) (by omega)
   have b1 : byt ([x, y] ++ t) 1 = 128 + c % 64 := by rw [← hy]; exact toNat_ofInt (by omega) (by omega)
   have hl : 2 ≤ ([x, y] ++ t).length := by simp
   unfold byt at b0 b1
   generalize [x, y] ++ t = l at *
   exact decN2 hl (by omega) (by omega) (by omega) (by omega)
 by_cases a3 : c ≤ 65535
 · have e : Lib.encodeRune c = [(224 + c / 4096).toNat.toUInt8, (128 + c / 64 % 64).toNat.toUInt8, (128 + c % 64).toNat.toUInt8] := by simp [Lib.encodeRune, Lib.encodeRuneZ_three (show (2048 ≤ c ∧ c < 55296) ∨ (57343 < c ∧ c ≤ 65535) by omega)]
   rw [e]
   generalize hx : (224 + c / 4096).toNat.toUInt8 = x
   generalize hy : (128 + c / 64 % 64).toNat.toUInt8 = y
   generalize hz : (128 + c % 64).toNat.toUInt8 = z
   have b0 : byt ([x, y, z] ++ t) 0 = 224 + c / 4096 := by rw [← hx]; exact toNat_ofInt (by omega) (by omega)
   have b1 : byt ([x, y, z] ++ t) 1 = 128 + c / 64 % 64 := by rw [← hy]; exact toNat_ofInt (by omega) (by omega)
   have b2 : byt ([x, y, z] ++ t) 2 = 128 + c % 64 := by rw [← hz]; exact toNat_ofInt (by omega) (by omega)
   have hl : 3 ≤ ([x, y, z] ++ t).length := by simp
   unfold byt at b0 b1 b2
   generalize [x, y, z] ++ t = l at *
   exact decN3 hl (by omega) (by omega) (by omega) (by omega) (by omega) (by omega)
 · have e : Lib.encodeRune c = [(240 + c / 262144).toNat.toUInt8, (128 + c / 4096 % 64).toNat.toUInt8, (128 + c / 64 % 64).toNat.toUInt8, (128 + c % 64).toNat.toUInt8] := by simp [Lib.encodeRune, Lib.encodeRuneZ_four (show 65536 ≤ c by omega) h1]
   rw [e]
   generalize hx : (240 + c / 262144).toNat.toUInt8 = x
   generalize hy : (128 + c / 4096 % 64).toNat.toUInt8 = y
   generalize hz : (128 + c / 64 % 64).toNat.toUInt8 = z
   generalize hu : (128 + c % 64).toNat.toUInt8 = u
   have b0 : byt ([x, y, z, u] ++ t) 0 = 240 + c / 262144 := by rw [← hx]; exact toNat_ofInt (by omega) (by omega)
   have b1 : byt ([x, y, z, u] ++ t) 1 = 128 + c / 4096 % 64 := by rw [← hy]; exact toNat_ofInt (by omega) (by omega)
   have b2 : byt ([x, y, z, u] ++ t) 2 = 128 + c / 64 % 64 := by rw [← hz]; exact toNat_ofInt (by omega) (by omega)
   have b3 : byt ([x, y, z, u] ++ t) 3 = 128 + c % 64 := by rw [← hu]; exact toNat_ofInt (by omega) (by omega)
   have hl : 4 ≤ ([x, y, z, u] ++ t).length := by simp
   unfold byt at b0 b1 b2 b3
   generalize [x, y, z, u] ++ t = l at *
   exact decN4 hl (by omega) (by omega) (by omega) (by omega) (by omega) (by omega)
theorem decode_enc {s : ByteArray} {k : Nat} {c : Int} {t : List UInt8} (h : okB c = true) (hd : s.data.toList.drop k = Lib.encodeRune c ++ t) : Utf8.decode s k = (c.toNat, (Lib.encodeRune c).length) := by
 rw [← Lib.decodeL_drop, hd, decL_enc h]
theorem enc_len0 (c : Int) : 1 ≤ (Lib.encodeRune c).length ∧ (Lib.encodeRune c).length ≤ 4 := by
 have := Lib.encodeRuneZ_length c
 simpa [Lib.encodeRune] using this
theorem two_of {a b c d : Nat} (h : a = c) (k : b = d) : [UInt8.ofNat a, UInt8.ofNat b] = [c.toUInt8, d.toUInt8] := by rw [h, k]
theorem three_of {a b c d e f : Nat} (h : a = d) (k : b = e) (l : c = f) : [UInt8.ofNat a, UInt8.ofNat b, UInt8.ofNat c] = [d.toUInt8, e.toUInt8, f.toUInt8] := by rw [h, k, l]
theorem four_of {a b c d e f g i : Nat} (h : a = e) (k : b = f) (l : c = g) (m : d = i) : [UInt8.ofNat a, UInt8.ofNat b, UInt8.ofNat c, UInt8.ofNat d] = [e.toUInt8, f.toUInt8, g.toUInt8, i.toUInt8] := by rw [h, k, l, m]
theorem enc_eq {c : Int} (h : okB c = true) : (Utf8.encode c).data.toList = Lib.encodeRune c := by
 have hok : 0 ≤ c ∧ c ≤ 1114111 ∧ halfB c = false := by simpa [okB] using h
 obtain ⟨h0, h1, h2⟩ := hok
 have hh : ¬ (55296 ≤ c ∧ c ≤ 57343) := by simpa [halfB] using h2
 have hv : Utf8.valid c = true := by simp only [Utf8.valid, Bool.or_eq_true, Bool.and_eq_true, decide_eq_true_eq]; omega
 unfold Utf8.encode
 rw [if_pos hv]
 by_cases a1 : c ≤ 127
 · simp only [show c.toNat < 128 by omega, if_true]
   rw [Lib.encodeRune, Lib.encodeRuneZ_one h0 a1]
   rfl
 by_cases a2 : c ≤ 2047
 · simp only [show ¬ c.toNat < 128 by omega, show c.toNat < 2048 by omega, if_true, if_false]
   rw [Lib.encodeRune, Lib.encodeRuneZ_two (by omega) a2]
   exact two_of (by omega) (by omega)
 by_cases a3 : c ≤ 65535
 · simp only [show ¬ c.toNat < 128 by omega, show ¬ c.toNat < 2048 by omega, show c.toNat < 65536 by omega, if_true, if_false]
   rw [Lib.encodeRune, Lib.encodeRuneZ_three (show (2048 ≤ c ∧ c < 55296) ∨ (57343 < c ∧ c ≤ 65535) by omega)]
   exact three_of (by omega) (by omega) (by omega)
 · simp only [show ¬ c.toNat < 128 by omega, show ¬ c.toNat < 2048 by omega, show ¬ c.toNat < 65536 by omega, if_false]
   rw [Lib.encodeRune, Lib.encodeRuneZ_four (show 65536 ≤ c by omega) h1]
   exact four_of (by omega) (by omega) (by omega) (by omega)
theorem bytes_ge : ∀ cs : List Int, cs.length ≤ (bytesOf cs).length := by
 intro cs
 induction cs with
 | nil => simp
 | cons c cs ih =>
   have := enc_len0 c
   rw [show bytesOf (c :: cs) = Lib.encodeRune c ++ bytesOf cs by simp [bytesOf], List.length_append, List.length_cons]
   omega
theorem enc_codes {c : Int} (h : okB c = true) : codes (Lib.encodeRune c) = some [c] := by
 have h1 := codes_bytes [c] [] (by simp [h])
 rw [List.append_nil, show bytesOf [c] = Lib.encodeRune c by simp [bytesOf]] at h1
 rw [h1, codes_nil]
 rfl
theorem enc_units {c : Int} (h : okB c = true) : unitsS (Utf8.encode c).data.toList = unitOf c := by
 unfold unitsS
 rw [enc_eq h, enc_codes h]
 simp [unitsOf]
theorem enc_len (c : Int) : 1 ≤ (Lib.encodeRune c).length ∧ (Lib.encodeRune c).length ≤ 4 := by
 have := Lib.encodeRuneZ_length c
 simpa [Lib.encodeRune] using this
theorem unitOf_len (c : Int) : (unitOf c).length ≤ 2 := by unfold unitOf; split <;> simp
theorem printQ_len (c : Int) : (printQ c).length ≤ 12 := by
 unfold printQ
 split
 · simp
 · split
   · simp
   · split
     · simp
     · split
       · rw [text_len]; have := unitOf_len c; omega
       · have := enc_len c; omega
theorem flatQ_len : ∀ cs : List Int, (cs.flatMap printQ).length ≤ 12 * cs.length := by
 intro cs
 induction cs with
 | nil => simp
 | cons c cs ih => rw [List.flatMap_cons, List.length_append, List.length_cons]; have := printQ_len c; omega
theorem isB_rune {B b : Nat} {l : List UInt8} {c : Int} {w : World} {p : Value} (hp : p = .pointer (some ⟨b, 0, none⟩)) (h : Lib.BuilderAtF 102 5 B b p (Lib.byteCells l ++ Lib.runeCells c) w) : IsB B b (l ++ Lib.encodeRune c) w := by
 subst hp
 refine .inr ?_
 rwa [← Lib.byteCells_encodeRune, ← Lib.byteCells_append] at h
theorem writeR (B b : Nat) (l : List UInt8) (c : Int) (h0 : 0 ≤ c) (h1 : c ≤ 1114111) (w : World) (h : IsB B b l w) (hl : l.length ≤ 1400000) (hB : B ≤ w.heap.size) :
  Calls Tryz.prog 140 #[.pointer (some ⟨b, 0, none⟩), .int .i32 c] w fun e w' => e = .returned (.tuple #[.int .i64 (Lib.runeCells c).length, .nilIface]) ∧ IsB B b (l ++ Lib.encodeRune c) w' ∧ Below B w w' ∧ Lib.OthersKept 5 (some b) w w' :=
 (writeRune B b (Lib.byteCells l) c (by omega) (by omega) w h (by rw [Lib.byteCells_length]; omega) hB).mono fun _ _ ⟨he, h1, h2, h3⟩ => ⟨he, isB_rune rfl h1, h2, h3⟩
theorem isB_lt {B b : Nat} {l : List UInt8} {w : World} (h : IsB B b l w) : b < w.heap.size := by
 rcases h with ⟨_, v, hb, _⟩ | ⟨_, v, hb, _⟩ <;> exact (Array.getElem?_eq_some_iff.1 hb).1
theorem enc_sz (c : Int) : (Utf8.encode c).size ≤ 4 := encode_size_le c
def QTo (s : ByteArray) (cs ds rest : List Int) (pos : Nat) : Prop := cs = ds ++ rest ∧ s.data.toList.drop pos = bytesOf rest
theorem QTo.next {s : ByteArray} {cs ds rest : List Int} {c : Int} {pos : Nat} (h : QTo s cs ds (c :: rest) pos) : QTo s cs (ds ++ [c]) rest (pos + (Lib.encodeRune c).length) := by
 refine ⟨by rw [h.1]; simp, ?_⟩
 rw [← List.drop_drop, h.2, show bytesOf (c :: rest) = Lib.encodeRune c ++ bytesOf rest by simp [bytesOf], List.drop_left]
set_option maxRecDepth 100000 in
set_option maxHeartbeats 4000000 in
theorem writeQuote_any (B b : Nat) (done : List UInt8) (s : ByteArray) (cs : List Int) (w : World) (h : IsB B b done w) (hs : s.size ≤ 3100) (hd : done.length ≤ 1150000) (hB : B ≤ w.heap.size) (ht : TabAt w) (hg : 1 < B) (hc : codes s.data.toList = some cs) :
  Calls Tryz.prog 60 #[.pointer (some ⟨b, 0, none⟩), .string s] w fun e w' => e = .returned (.tuple #[]) ∧ IsB B b (done ++ quoteT cs) w' ∧ Below B w w' := by
 obtain ⟨hby, hok⟩ := bytes_codes s.data.toList.length s.data.toList cs (Nat.le_refl _) hc
 have hcl : cs.length ≤ 3100 := by
  have := bytes_ge cs
  rw [hby, len_data] at this; omega
 have HT := Hd ht
 have HOK := Hd hok
 have H1 := Hd (write1 B b done 34 w h (by omega) hB)
 have HBY := Hd hby
 clear h hc hok ht hby
 go_enter Tryz.func60, Tryz.ntmps60
 go_wp2_with fail
 refine H1.out.mono ?_
 rintro e w1 ⟨rfl, hI1, hb1, _⟩
 have HI1 := Hd hI1
 have hs1 := hb1.size
 have HB1 := Hd hb1
 clear hI1 hb1 H1
 go_wp2
 go_loopg [5] cs.length (fun g c5 wx => ∃ (ds rest : List Int) (pos : Nat), rest.length = g ∧ Aside (QTo s cs ds rest pos) ∧ Aside (wx.heap[w1.heap.size]? = some (.stringIter s pos)) ∧ Aside (IsB B b (done ++ 34 :: ds.flatMap printQ) wx) ∧ Below B w wx)
 case atStart => exact ⟨[], cs, 0, rfl, Aside.intro ⟨rfl, by rw [HBY.out]; rfl⟩, Aside.intro (by simp [World.iter_heap]), Aside.intro (by have := HI1.out.alloc (.stringIter s 0); simpa [World.iter] using this), HB1.out.alloc (by omega) _⟩
 case round =>
  obtain ⟨ds, rest, pos, hgk, HQ, HK, HX, hb⟩ := hrel
  have hbs := hb.size
  have HBx := Hd hb
  clear hb
  cases rest with
  | nil =>
    obtain ⟨hcs, hdr⟩ := HQ.out
    have hds : ds = cs := by rw [hcs]; simp
    subst hds
    have hp : ¬ pos < s.size := by
      have := congrArg List.length hdr
      rw [List.length_drop, len_data] at this
      simp [bytesOf] at this
      omega
    have hnx : ∀ ty, (Instr.next (.pointer (some ⟨w1.heap.size, 0, none⟩)) true ty).run Tryz.prog wr = _ := fun ty => Lib.run_next_end_at wr w1.heap.size s pos ty HK.out hp
    have HW := Hd (write1 B b (done ++ 34 :: ds.flatMap printQ) 34 wr HX.out (by have := flatQ_len ds; rw [List.length_append, List.length_cons]; omega) (by omega))
    have HE : Hid ((done ++ 34 :: ds.flatMap printQ) ++ [34] = done ++ quoteT ds) := Hd (by simp [quoteT])
    clear HX HK HQ hcs hdr hp
    go_wp2_with fail
    refine HW.out.mono ?_
    rintro e w2 ⟨rfl, hI2, hb2, _⟩
    have HI2 := Hd hI2
    have HB2 := Hd (HBx.out.trans hb2)
    clear hI2 hb2 HW
    go_wp2_with fail
    go_end0
    exact ⟨rfl, by rw [← HE.out]; exact HI2.out, HB2.out⟩
  | cons c rest =>
    have hQn := HQ.out.next
    have hdr := HQ.out.2
    have hcm : c ∈ cs := by rw [HQ.out.1]; simp
    have hcok : okB c = true := by
      have := HOK.out
      rw [List.all_eq_true] at this
      exact this c hcm
    have hdl : ds.length + rest.length + 1 = cs.length := by rw [HQ.out.1]; simp; omega
    obtain ⟨hc0, hc1, hch⟩ : 0 ≤ c ∧ c ≤ 1114111 ∧ halfB c = false := by simpa [okB] using hcok
    have hp : pos < s.size := by
      have h1 := congrArg List.length hdr
      rw [List.length_drop, len_data, show bytesOf (c :: rest) = Lib.encodeRune c ++ bytesOf rest by simp [bytesOf], List.length_append] at h1
      have := enc_len c
      omega
    have hdec : Utf8.decode s pos = (c.toNat, (Lib.encodeRune c).length) := decode_enc hcok (t := bytesOf rest) (by rw [hdr]; simp [bytesOf])
    have hnx0 : ∀ ty, (Instr.next (.pointer (some ⟨w1.heap.size, 0, none⟩)) true ty).run Tryz.prog wr = _ := fun ty => Lib.run_next_any_at wr w1.heap.size s pos ty HK.out hp
    rw [hdec] at hnx0
    simp only [show ((c.toNat : Nat) : Int) = c by omega] at hnx0
    have hK1 := Lib.iterAt_heap wr w1.heap.size s pos (pos + (Lib.encodeRune c).length) HK.out
    have hI1 : IsB B b (done ++ 34 :: ds.flatMap printQ) (wr.iterAt w1.heap.size s (pos + (Lib.encodeRune c).length)) := Lib.IsBuilderF.iterAt HX.out HK.out _
    have hB1 : Below B w (wr.iterAt w1.heap.size s (pos + (Lib.encodeRune c).length)) := Lib.below_iterAt HBx.out (by omega) _ _
    have hne : w1.heap.size ≠ b := by have := isB_lt HI1.out; omega
    have hlen : (done ++ 34 :: ds.flatMap printQ).length ≤ 1300000 := by have := flatQ_len ds; rw [List.length_append, List.length_cons]; omega
    have hsnoc : Hid (∀ x, printQ c = x → (done ++ 34 :: ds.flatMap printQ) ++ x = done ++ 34 :: (ds ++ [c]).flatMap printQ) := Hd (fun x hx => by rw [← hx]; simp)
    generalize wr.iterAt w1.heap.size s (pos + (Lib.encodeRune c).length) = W1 at *
    have hs2 := hB1.size
    have HKn := Hd hK1
    have HBn := Hd hB1
    have HQn := Hd hQn
    have HIn := Hd hI1
    have HN := Hd hcok
    have HTn := Hd (HT.out.below hB1 hg)
    have hgk' : rest.length = gk - 1 := by simp at hgk; omega
    have hgk1 : gk - 1 < gk := by simp at hgk; omega
    generalize done ++ 34 :: ds.flatMap printQ = pre0 at *
    clear HX HK HQ HBx hdr hcm hK1 hB1 hQn hI1 hdec hcok hch hp hgk
    by_cases c34 : c = 34
    · subst c34
      have hnx := hnx0
      have HW := Hd (write1 B b pre0 92 W1 HIn.out (by omega) (by omega))
      go_wp2_with fail
      refine HW.out.mono ?_
      rintro e w2 ⟨rfl, hI2, hb2, ho2⟩
      have hs3 := hb2.size
      have HI2 := Hd hI2
      have HB2 := Hd (HBn.out.trans hb2)
      have HK2 := Hd (ho2.iter HKn.out hne)
      clear hI2 hb2 ho2 HW
      have HW := Hd (writeR B b (pre0 ++ [92]) 34 (by omega) (by omega) w2 HI2.out (by rw [List.length_append]; simp; omega) (by omega))
      go_wp2_with fail
      refine HW.out.mono ?_
      rintro e w3 ⟨rfl, hI3, hb3, ho3⟩
      have HIf0 := Hd hI3
      have HIf : Hid (IsB B b (pre0 ++ [92, 34]) w3) := Hd (by have := HIf0.out; rw [show Lib.encodeRune 34 = [34] by decide +kernel, List.append_assoc] at this; exact this)
      have HBf := Hd (HB2.out.trans hb3)
      have HKf := Hd (ho3.iter HK2.out hne)
      clear hI3 hb3 ho3 HW
      go_wp2_with fail
      go_roundg (gk - 1)
      case measure => omega
      case rel => exact ⟨ds ++ [34], rest, _, hgk', Aside.intro HQn.out, Aside.intro HKf.out, Aside.intro (by rw [← hsnoc.out _ (by unfold printQ; rfl)]; exact HIf.out), HBf.out⟩
    by_cases c92 : c = 92
    · subst c92
      have hnx := hnx0
      have HW := Hd (write1 B b pre0 92 W1 HIn.out (by omega) (by omega))
      go_wp2_with fail
      refine HW.out.mono ?_
      rintro e w2 ⟨rfl, hI2, hb2, ho2⟩
      have hs3 := hb2.size
      have HI2 := Hd hI2
      have HB2 := Hd (HBn.out.trans hb2)
      have HK2 := Hd (ho2.iter HKn.out hne)
      clear hI2 hb2 ho2 HW
      have HW := Hd (writeR B b (pre0 ++ [92]) 92 (by omega) (by omega) w2 HI2.out (by rw [List.length_append]; simp; omega) (by omega))
      go_wp2_with fail
      refine HW.out.mono ?_
      rintro e w3 ⟨rfl, hI3, hb3, ho3⟩
      have HIf0 := Hd hI3
      have HIf : Hid (IsB B b (pre0 ++ [92, 92]) w3) := Hd (by have := HIf0.out; rw [show Lib.encodeRune 92 = [92] by decide +kernel, List.append_assoc] at this; exact this)
      have HBf := Hd (HB2.out.trans hb3)
      have HKf := Hd (ho3.iter HK2.out hne)
      clear hI3 hb3 ho3 HW
      go_wp2_with fail
      go_roundg (gk - 1)
      case measure => omega
      case rel => exact ⟨ds ++ [92], rest, _, hgk', Aside.intro HQn.out, Aside.intro HKf.out, Aside.intro (by rw [← hsnoc.out _ (by unfold printQ; rfl)]; exact HIf.out), HBf.out⟩
    have e34 : (c == 34) = false := by simpa using c34
    have e92 : (c == 92) = false := by simpa using c92
    by_cases c10 : c = 10
    · subst c10
      have hnx := hnx0
      have HW := Hd (writeS B b pre0 [92, 110] W1 HIn.out (by omega) (by decide) (by omega))
      go_wp2_with fail
      refine HW.out.mono ?_
      rintro e w2 ⟨rfl, hI2, hb2, ho2⟩
      have HIf := Hd hI2
      have HBf := Hd (HBn.out.trans hb2)
      have HKf := Hd (ho2.iter HKn.out hne)
      clear hI2 hb2 ho2 HW
      go_wp2_with fail
      go_roundg (gk - 1)
      case measure => omega
      case rel => exact ⟨ds ++ [10], rest, _, hgk', Aside.intro HQn.out, Aside.intro HKf.out, Aside.intro (by rw [← hsnoc.out _ (by unfold printQ; rfl)]; exact HIf.out), HBf.out⟩
    have e10 : (c == 10) = false := by simpa using c10
    by_cases c32 : c < 32
    · have hnx := hnx0
      have HW := Hd (writeUnits_any B b pre0 (Utf8.encode c) W1 HIn.out (by have := enc_sz c; omega) (by omega) (by omega) HTn.out (by rw [enc_units HN.out]; have := unitOf_len c; omega) (by rw [enc_units HN.out]; exact unit_range HN.out))
      rw [enc_units HN.out] at HW
      go_wp2_with fail
      refine HW.out.mono ?_
      rintro e w2 ⟨rfl, hI2, hb2, ho2⟩
      have HIf := Hd hI2
      have HBf := Hd (HBn.out.trans hb2)
      have HKf := Hd (ho2.iter HKn.out hne)
      clear hI2 hb2 ho2 HW
      go_wp2_with fail
      go_roundg (gk - 1)
      case measure => omega
      case rel => exact ⟨ds ++ [c], rest, _, hgk', Aside.intro HQn.out, Aside.intro HKf.out, Aside.intro (by rw [← hsnoc.out _ (by unfold printQ; rw [if_neg c34, if_neg c92, if_neg c10, if_pos (.inl c32)])]; exact HIf.out), HBf.out⟩
    by_cases cb : 65535 < c
    · have hnx := hnx0
      have HW := Hd (writeUnits_any B b pre0 (Utf8.encode c) W1 HIn.out (by have := enc_sz c; omega) (by omega) (by omega) HTn.out (by rw [enc_units HN.out]; have := unitOf_len c; omega) (by rw [enc_units HN.out]; exact unit_range HN.out))
      rw [enc_units HN.out] at HW
      go_wp2_with fail
      refine HW.out.mono ?_
      rintro e w2 ⟨rfl, hI2, hb2, ho2⟩
      have HIf := Hd hI2
      have HBf := Hd (HBn.out.trans hb2)
      have HKf := Hd (ho2.iter HKn.out hne)
      clear hI2 hb2 ho2 HW
      go_wp2_with fail
      go_roundg (gk - 1)
      case measure => omega
      case rel => exact ⟨ds ++ [c], rest, _, hgk', Aside.intro HQn.out, Aside.intro HKf.out, Aside.intro (by rw [← hsnoc.out _ (by unfold printQ; rw [if_neg c34, if_neg c92, if_neg c10, if_pos (.inr cb)])]; exact HIf.out), HBf.out⟩
    · have hnx := hnx0
      have HW := Hd (writeR B b pre0 c (by omega) (by omega) W1 HIn.out (by omega) (by omega))
      go_wp2_with fail
      refine HW.out.mono ?_
      rintro e w2 ⟨rfl, hI2, hb2, ho2⟩
      have HIf := Hd hI2
      have HBf := Hd (HBn.out.trans hb2)
      have HKf := Hd (ho2.iter HKn.out hne)
      clear hI2 hb2 ho2 HW
      go_wp2_with fail
      go_roundg (gk - 1)
      case measure => omega
      case rel => exact ⟨ds ++ [c], rest, _, hgk', Aside.intro HQn.out, Aside.intro HKf.out, Aside.intro (by rw [← hsnoc.out _ (by unfold printQ; rw [if_neg c34, if_neg c92, if_neg c10, if_neg (by omega)])]; exact HIf.out), HBf.out⟩
theorem bareT_len (ts : List (Int × ByteArray)) : (bareT ts).length = ts.length := by simp [bareT]
theorem codesT_len (x : List UInt8) : (codesT x).length ≤ x.length := by
 unfold codesT
 cases hc : codes x with
 | none => simp
 | some cs =>
   have h := (bytes_codes x.length x cs (Nat.le_refl _) hc).1
   have := bytes_ge cs
   rw [h] at this
   exact this
theorem printT_len (z : Int) (x : ByteArray) : (printT (z, x.data.toList)).length ≤ 12 * (x.size + 1) := by
 have hl := len_data x
 unfold printT
 split
 · unfold quoteT
   have h1 := flatQ_len (codesT x.data.toList)
   have h2 := codesT_len x.data.toList
   simp only [List.length_cons, List.length_append, List.length_nil]
   omega
 · show x.data.toList.length ≤ _
   omega
theorem printL_len : ∀ ts : List (Int × ByteArray), (printL (bareT ts)).length ≤ 13 * sumT ts := by
 intro ts
 induction ts with
 | nil => simp [bareT, printL]
 | cons t ts ih =>
   obtain ⟨z, x⟩ := t
   have h := printT_len z x
   show (printT (z, x.data.toList) ++ _).length ≤ 13 * (1 + x.size + sumT ts)
   rw [List.length_append]
   have : (if List.map (fun t : Int × ByteArray => (t.1, t.2.data.toList)) ts = [] then [] else 32 :: printL (bareT ts)).length ≤ 1 + (printL (bareT ts)).length := by
    split
    · simp
    · simp; omega
   have e : ∀ l : List UInt8, l.length ≤ 1 + (printL (bareT ts)).length → (printT (z, x.data.toList)).length + l.length ≤ 13 * (1 + x.size + sumT ts) := fun l hl => by omega
   exact e _ this
def printS (l : List (Int × List UInt8)) : List UInt8 := if l.all rightB then printL l else []
theorem printS_yes {l : List (Int × List UInt8)} (h : l.all rightB = true) : printS l = printL l := if_pos h
theorem printS_no {l : List (Int × List UInt8)} (h : l.all rightB = false) : printS l = [] := if_neg (by rw [h]; decide)
theorem bare_step {ts : List (Int × ByteArray)} {k : Nat} {z : Int} {x : ByteArray} (h : ts[k]? = some (z, x)) : bareT (ts.take (k + 1)) = bareT (ts.take k) ++ [(z, x.data.toList)] := by
 rw [List.take_add_one, h]
 simp [bareT]
theorem all_step {ts : List (Int × ByteArray)} {k : Nat} {z : Int} {x : ByteArray} (h : ts[k]? = some (z, x)) (ha : (bareT (ts.take k)).all rightB = true) : (bareT (ts.take (k + 1))).all rightB = rightB (z, x.data.toList) := by
 rw [bare_step h, List.all_append, ha]
 simp
theorem all_bad {ts : List (Int × ByteArray)} {k : Nat} {z : Int} {x : ByteArray} (h : ts[k]? = some (z, x)) (hr : rightB (z, x.data.toList) = false) : (bareT ts).all rightB = false := by
 cases ha : (bareT ts).all rightB
 · rfl
 · rw [List.all_eq_true] at ha
   have := ha (z, x.data.toList) (by unfold bareT; exact List.mem_map.2 ⟨_, List.mem_of_getElem? h, rfl⟩)
   rw [hr] at this
   cases this
theorem print_first {ts : List (Int × ByteArray)} {z : Int} {x : ByteArray} (h : ts[0]? = some (z, x)) : printL (bareT (ts.take (0 + 1))) = printL (bareT (ts.take 0)) ++ printT (z, x.data.toList) := by
 rw [bare_step h]
 simp [bareT, printL]
theorem print_next {ts : List (Int × ByteArray)} {k : Nat} {z : Int} {x : ByteArray} (h : ts[k]? = some (z, x)) (h0 : 0 < k) : printL (bareT (ts.take (k + 1))) = (printL (bareT (ts.take k)) ++ [32]) ++ printT (z, x.data.toList) := by
 rw [bare_step h, print_snoc _ _ (by
  intro e
  have := congrArg List.length e
  have hk := (List.getElem?_eq_some_iff.1 h).1
  rw [bareT_len, List.length_take, List.length_nil] at this
  omega)]
 simp
theorem box_at {w w2 : World} {a b : Value} {t : TypeId} (hb : Below (w.alloc (.cells #[a, b] t)).heap.size (w.alloc (.cells #[a, b] t)) w2) : w2.heap[w.heap.size]? = some (.cells #[a, b] t (0, 0)) :=
 (hb.block w.heap.size (by simp)).trans (heap_alloc_last _ _)
theorem box_cells {w : World} {g : Nat} {a b : Value} {t : TypeId} (h : w.heap[g]? = some (.cells #[a, b] t (0, 0))) : w.cell? ⟨g, 0, none⟩ = some a ∧ w.cell? ⟨g, 1, none⟩ = some b := ⟨by simp [World.cell?, h], by simp [World.cell?, h]⟩
theorem quote_codes5 {x : List UInt8} (h : rightB (5, x) = true) : codes x = some (codesT x) ∧ printT (5, x) = quoteT (codesT x) := by
 rw [right5, goodB_iff] at h
 refine ⟨?_, rfl⟩
 unfold codesT
 cases hc : codes x with
 | none => rw [hc] at h; cases h
 | some cs => rfl
theorem plain_text {z : Int} {x : List UInt8} (h : z ≠ 5) : printT (z, x) = x := by
 unfold printT
 rw [if_neg h]
set_option maxRecDepth 100000 in
set_option maxHeartbeats 4000000 in
theorem print_gen (A : Option Addr) (n c : Nat) (ts : List (Int × ByteArray)) (w : World) (h : TsAt w w.heap.size A n ts) (hsum : sumT ts ≤ 80000) (hxs : ∀ t ∈ ts, t.2.size ≤ 3100) (h3 : Laid3 w) :
  Calls Tryz.prog 24 #[.slice A n c] w fun e w' => e = .returned (.tuple #[.string ⟨(printS (bareT ts)).toArray⟩, .bool ((bareT ts).all rightB)]) ∧ Below w.heap.size w w' := by
 have HL := Hd h.1
 have H := Hd h
 have H3 := Hd h3
 have hn : n ≤ 80000 := by have := sumT_len ts; have := h.1; omega
 have HXS := Hd hxs
 clear h h3 hxs
 go_enter Tryz.func24, Tryz.ntmps24
 go_wp2
 go_loopg [9] n (fun g i wx => ∃ k : Nat, k + g = n ∧ i = .int .i64 k ∧ Aside ((bareT (ts.take k)).all rightB = true) ∧ Aside (IsB w.heap.size w.heap.size (printL (bareT (ts.take k))) wx) ∧ Below w.heap.size w wx)
 case atStart => exact ⟨0, by omega, rfl, Aside.intro rfl, Aside.intro (Lib.IsBuilderF.of (Lib.fresh_isBuilder _ _ _)), below_new⟩
 case round =>
  obtain ⟨k, hk, rfl, HR, HX, hb⟩ := hrel
  have hbs := hb.size
  have HBx := Hd hb
  have hlb := isB_lt HX.out
  by_cases hlt : k < n
  · have hlt' : (k : Int) < (n : Int) := by omega
    have hk0 : (0 : Int) ≤ (k : Int) := by omega
    obtain ⟨⟨z, x⟩, ht⟩ : ∃ t, ts[k]? = some t := ⟨_, List.getElem?_eq_getElem (by rw [HL.out]; omega)⟩
    obtain ⟨bb, o, rfl, hbb, c0, c1⟩ := (H.out.below hb).2 k _ ht
    simp only at c0 c1
    have hx : x.size ≤ 3100 := HXS.out (z, x) (List.mem_of_getElem? ht)
    have HT := Hd ht
    have HRt := Hd (fun w h3 => right_any z x w (by omega) h3)
    clear ht hb
    have HRc := Hd (HRt.out (wr.alloc (.cells #[.int .i64 z, .string x] 70)) ((H3.out.below HBx.out).alloc _))
    have hcl : (printL (bareT (ts.take k))).length ≤ 1120000 := by
      have h1 := printL_len (ts.take k)
      have h2 := sumT_take ts k
      omega
    obtain ⟨rb, hrb⟩ : ∃ rb, rightB (z, x.data.toList) = rb := ⟨_, rfl⟩
    rw [hrb] at HRc
    have HRT := Hd hrb
    clear hrb HRt
    go_wp2_with fail
    refine HRc.out.mono ?_
    rintro e w2 ⟨rfl, hb2⟩
    have HK2 := Hd (box_at hb2)
    have HI2 : Hid (IsB w.heap.size w.heap.size (printL (bareT (ts.take k))) w2) := Hd (builder_below (Lib.IsBuilderF.alloc HX.out _) hb2)
    have HB2 : Hid (Below w.heap.size w w2) := Hd (HBx.out.trans ((below_new.mono hbs).trans (hb2.mono (by simp; omega))))
    clear hb2 HX HRc
    cases rb
    · have hf := Hd (all_bad HT.out HRT.out)
      go_wp2_with fail
      go_ret2
      exact ⟨by rw [hf.out, printS_no hf.out]; rfl, HB2.out⟩
    · obtain ⟨k0, k1⟩ := box_cells HK2.out
      have hne : wr.heap.size ≠ w.heap.size := by omega
      by_cases hk1 : 0 < k
      · have hk1' : (k : Int) > 0 := by omega
        have HW := Hd (write1 w.heap.size w.heap.size (printL (bareT (ts.take k))) 32 w2 HI2.out (by omega) HB2.out.size)
        clear k0 k1
        go_wp2_with fail
        refine HW.out.mono ?_
        rintro e w3 ⟨rfl, hI3, hb3, ho3⟩
        have HK3 : Hid (w3.heap[wr.heap.size]? = some (.cells #[.int .i64 z, .string x] 70 (0, 0))) := Hd (ho3 _ _ HK2.out (fun e => hne (Option.some.inj e)) (by
          intro c' fz' e1
          injection e1 with _ h2 _
          exact absurd h2 (by decide)))
        obtain ⟨k0, k1⟩ := box_cells HK3.out
        have HI3 := Hd hI3
        have HB3 := Hd (HB2.out.trans hb3)
        clear hI3 hb3 ho3 HW
        by_cases hz : z = 5
        · subst hz
          have HQ := Hd (quote_codes5 HRT.out)
          have HW := Hd (writeQuote_any w.heap.size w.heap.size (printL (bareT (ts.take k)) ++ [32]) x (codesT x.data.toList) w3 HI3.out (by omega) (by rw [List.length_append]; simp; omega) HB3.out.size (H3.out.below HB3.out).1 H3.out.1.lt HQ.out.1)
          go_wp2_with fail
          refine HW.out.mono ?_
          rintro e w4 ⟨rfl, hI4, hb4⟩
          have HI4 := Hd hI4
          have HB4 := Hd (HB3.out.trans hb4)
          clear hI4 hb4 HW
          go_wp2_with fail
          go_roundg (gk - 1)
          case measure => omega
          case rel => exact ⟨k + 1, by omega, by go_num, Aside.intro (by rw [all_step HT.out HR.out]; exact HRT.out), Aside.intro (by rw [print_next HT.out hk1, HQ.out.2]; exact HI4.out), HB4.out⟩
        · have e5 : (z == 5) = false := by simpa using hz
          have HZ := Hd (plain_text (x := x.data.toList) hz)
          have HW := Hd (writeS w.heap.size w.heap.size (printL (bareT (ts.take k)) ++ [32]) x.data.toList w3 HI3.out (by rw [List.length_append]; simp; omega) (by rw [len_data]; omega) HB3.out.size)
          rw [mk_of (rfl : x.data.toList = x.data.toList)] at HW
          go_wp2_with fail
          refine HW.out.mono ?_
          rintro e w4 ⟨rfl, hI4, hb4, _⟩
          have HI4 := Hd hI4
          have HB4 := Hd (HB3.out.trans hb4)
          clear hI4 hb4 HW
          go_wp2_with fail
          go_roundg (gk - 1)
          case measure => omega
          case rel => exact ⟨k + 1, by omega, by go_num, Aside.intro (by rw [all_step HT.out HR.out]; exact HRT.out), Aside.intro (by rw [print_next HT.out hk1, HZ.out]; exact HI4.out), HB4.out⟩
      · obtain rfl : k = 0 := by omega
        by_cases hz : z = 5
        · subst hz
          have HQ := Hd (quote_codes5 HRT.out)
          have HW := Hd (writeQuote_any w.heap.size w.heap.size (printL (bareT (ts.take 0))) x (codesT x.data.toList) w2 HI2.out (by omega) (by omega) HB2.out.size (H3.out.below HB2.out).1 H3.out.1.lt HQ.out.1)
          go_wp2_with fail
          refine HW.out.mono ?_
          rintro e w4 ⟨rfl, hI4, hb4⟩
          have HI4 := Hd hI4
          have HB4 := Hd (HB2.out.trans hb4)
          clear hI4 hb4 HW
          go_wp2_with fail
          go_roundg (gk - 1)
          case measure => omega
          case rel => exact ⟨0 + 1, by omega, by go_num, Aside.intro (by rw [all_step HT.out HR.out]; exact HRT.out), Aside.intro (by rw [print_first HT.out, HQ.out.2]; exact HI4.out), HB4.out⟩
        · have e5 : (z == 5) = false := by simpa using hz
          have HZ := Hd (plain_text (x := x.data.toList) hz)
          have HW := Hd (writeS w.heap.size w.heap.size (printL (bareT (ts.take 0))) x.data.toList w2 HI2.out (by omega) (by rw [len_data]; omega) HB2.out.size)
          rw [mk_of (rfl : x.data.toList = x.data.toList)] at HW
          go_wp2_with fail
          refine HW.out.mono ?_
          rintro e w4 ⟨rfl, hI4, hb4, _⟩
          have HI4 := Hd hI4
          have HB4 := Hd (HB2.out.trans hb4)
          clear hI4 hb4 HW
          go_wp2_with fail
          go_roundg (gk - 1)
          case measure => omega
          case rel => exact ⟨0 + 1, by omega, by go_num, Aside.intro (by rw [all_step HT.out HR.out]; exact HRT.out), Aside.intro (by rw [print_first HT.out, HZ.out]; exact HI4.out), HB4.out⟩
  · obtain rfl : k = n := by omega
    have hall : Hid ((bareT ts).all rightB = true) := Hd (by
      have h := HR.out
      rwa [List.take_of_length_le (by rw [HL.out]; omega)] at h)
    have HI : Hid (IsB w.heap.size w.heap.size (printL (bareT ts)) wr) := Hd (by
      have h := HX.out
      rwa [List.take_of_length_le (by rw [HL.out]; omega)] at h)
    have HC := Hd (builderText w.heap.size w.heap.size (printL (bareT ts)) wr HI.out hbs)
    clear HX HR hb
    go_wp2_with fail
    refine HC.out.mono ?_
    rintro e w2 ⟨rfl, _, hb2, _⟩
    have HB2 := Hd (HBx.out.trans hb2)
    clear hb2
    go_wp2_with fail
    go_ret2
    exact ⟨by rw [hall.out, printS_yes hall.out]; rfl, HB2.out⟩
end Go.Proofs.YtpkmbhnikilihaaGreatDoor
