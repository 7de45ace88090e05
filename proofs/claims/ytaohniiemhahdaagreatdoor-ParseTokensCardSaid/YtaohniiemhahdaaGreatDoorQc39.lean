/- The laws' own example. -/
import Derived.Test.YtaohniiemhahdaaGreatDoorQc38
import Derived.Test.YtaohniiemhahdaaGreatDoorCards
import Derived.Test.YtaohniiemhahdaaGreatDoorTie
import Derived.Test.YtaohniiemhahdaaGreatDoorQc20
import Derived.WalkKit
import Derived.ProofKit
import Derived.OpenShut
import Derived.Carry
import Derived.Deep.Strs
import Derived.Deep.DeepHandedRow
import Derived.Lib.LaidTab
import Derived.Lib.LaidU8
import Derived.Lay
import Derived.MakeChecks
import Derived.Test.YtaohniiemhahdaaGreatDoorQc9
import Derived.Test.YtaohniiemhahdaaGreatDoorQc12
import Derived.SizedLaws
import Derived.Test.YtaohniiemhahdaaGreatDoorQc10
import Derived.Test.YtaohniiemhahdaaGreatDoorQc2
import Derived.Test.YtaohniiemhahdaaGreatDoorQc16
namespace Go.Proofs.YtaohniiemhahdaaGreatDoor
open Go.RowKit

def ex1 : ByteArray := ⟨#[123, 97, 32, 46, 46, 46, 111, 110, 32, 66, 123, 99, 125, 125]⟩
def ex2 : ByteArray := ⟨#[113, 117, 101, 114, 121, 40, 36, 120, 58, 73, 110, 116, 61, 36, 121, 41, 123, 97, 125]⟩
def ex1T : List (Int × List UInt8) := [(1, [123]), (2, [97]), (1, [46, 46, 46]), (2, [111, 110]), (2, [66]), (1, [123]), (2, [99]), (1, [125]), (1, [125])]
def ex2T : List (Int × List UInt8) := [(2, [113, 117, 101, 114, 121]), (1, [40]), (1, [36]), (2, [120]), (1, [58]), (2, [73, 110, 116]), (1, [61]), (1, [36]), (2, [121]), (1, [41]), (1, [123]), (2, [97]), (1, [125])]
theorem ex1_read : readS ex1.data.toList = (ex1T, 0) := by decide +kernel
theorem ex2_read : readS ex2.data.toList = (ex2T, 0) := by decide +kernel
def exS2 : SelT := .mk 2 eB eB .nil [] (bz [66]) (.cons (.mk 0 eB (bz [99]) .nil [] eB .nil) .nil)
def exDoc : DocT := ⟨[⟨0, eB, [], [], .cons (.mk 0 eB (bz [97]) .nil [] eB .nil) (.cons exS2 .nil)⟩], []⟩
theorem ex1_doc : docR (tokB ex1T) = .ok exDoc := by kernel_rfl
theorem ex2_doc : docR (tokB ex2T) = .error 2 := by kernel_rfl
theorem whole_of {α : Type} {R : List Tok → Except Int (α × List Tok)} {l : List UInt8} {ts : List (Int × List UInt8)} (h : readS l = (ts, 0)) : wholeA R l = (match R (tokB ts) with | .error x => .error x | .ok (a, r) => if r = [] then .ok a else .error 2) := by
  unfold wholeA
  rw [h, if_neg (by simp)]
  cases R (tokB ts) <;> rfl
theorem doc_of {l : List UInt8} {ts : List (Int × List UInt8)} (h : readS l = (ts, 0)) : wholeA docRr l = docR (tokB ts) := by
  rw [whole_of h]
  unfold docRr
  cases docR (tokB ts) with
  | error x => rfl
  | ok D => rfl
theorem ex1_whole : wholeA docRr ex1.data.toList = .ok exDoc := by rw [doc_of ex1_read, ex1_doc]
theorem ex2_whole : wholeA docRr ex2.data.toList = .error 2 := by rw [doc_of ex2_read, ex2_doc]
/-- What the example's document is in memory. -/
theorem ex_cells {w w' : World} {A0 : Option Addr} {n0 k0 : Nat} {A1 : Option Addr} {n1 k1 : Nat} (h : TS w' (Fresh w w') (encDoc exDoc) [.slice A0 n0 k0, .slice A1 n1 k1]) :
    n0 = 1 ∧ ∃ b o b2 o2 k2, A0 = some ⟨b, o, none⟩ ∧ b < w'.heap.size ∧ b2 < w'.heap.size ∧ w'.cell? ⟨b, o + 4, none⟩ = some (.slice (some ⟨b2, o2, none⟩) 2 k2) ∧ w'.cell? ⟨b2, o2 + 12, none⟩ = some (.string ⟨#[66]⟩) := by
  unfold encDoc exDoc at h
  simp only [rowOf, TS, TP, encOp] at h
  obtain ⟨c0, _, e0, ⟨A, k, rfl, _, hl⟩, _⟩ := h
  injection e0 with e0 _
  injection e0 with e1 e2 e3
  subst e1 e2
  rw [RowT] at hl
  obtain ⟨b, o, cs, rfl, hb, hc, hs, _⟩ := hl
  refine ⟨rfl, b, o, ?_⟩
  simp only [TS, TP, encSL] at hs
  obtain ⟨x0, _, rfl, _, x1, _, rfl, _, x2, _, rfl, _, x3, _, rfl, _, x4, _, rfl, ⟨A4, k4, rfl, _, h4⟩, _⟩ := hs
  rw [RowT] at h4
  obtain ⟨b2, o2, cs2, rfl, hb2, hc2, hs2, h5⟩ := h4
  rw [RowT] at h5
  obtain ⟨b3, o3, cs3, e3, hb3, hc3, hs3, _⟩ := h5
  have e3 := Option.some.inj e3
  injection e3 with q1 q2 _
  subst q1 q2
  unfold exS2 at hs3
  rw [encS] at hs3
  simp only [TS, TP] at hs3
  obtain ⟨y0, _, rfl, _, y1, _, rfl, _, y2, _, rfl, _, y3, _, rfl, _, y4, _, rfl, _, y5, _, rfl, ⟨rfl, _⟩, _⟩ := hs3
  have hlen : (encS (.mk 0 eB (bz [97]) .nil [] eB .nil)).len = 7 := by rw [encS]; rfl
  refine ⟨b2, o2, k4, rfl, hb.2, hb2.2, hc 4 _ rfl, ?_⟩
  have := hc3 5 _ rfl
  rw [hlen] at this
  exact this
set_option maxRecDepth 100000 in
set_option maxHeartbeats 4000000 in
theorem awake_any (w : World) (h3 : Laid3 w) (h5 : Laid5 w) : Calls Tryz.prog 11 #[] w fun e w' => e = .returned (.bool true) ∧ Below w.heap.size w w' := by
  have H1 := Lib.hid (pread_any ex1 w (by decide) h3 h5)
  rw [ex1_whole] at H1
  have H2 := fun wx (hb : Below w.heap.size w wx) => Lib.hid (pread_any ex2 wx (by decide) (h3.below hb) (h5.below hb))
  rw [ex2_whole] at H2
  clear h3 h5
  go_enter Tryz.func11, Tryz.ntmps11
  go_wp2_with fail
  refine H1.out.mono ?_
  rintro e w1 ⟨A0, n0, k0, A1, n1, k1, x, rfl, ⟨rfl, hts⟩, hb1⟩
  obtain ⟨rfl, b, o, b2, o2, k2, rfl, hlb, hlb2, hc1, hc2⟩ := ex_cells hts
  have B1 := Lib.hid (hb1.alloc hb1.size (.cells #[.slice (some ⟨b, o, none⟩) 1 k0, .slice A1 n1 k1] 26))
  have C1 := Lib.hid (show (w1.alloc (.cells #[.slice (some ⟨b, o, none⟩) 1 k0, .slice A1 n1 k1] 26)).heap[w1.heap.size]? = _ from heap_alloc_last _ _)
  have HC := Lib.hid (And.intro hc1 hc2)
  clear hts hb1 hc1 hc2 H1
  go_wp2_with fail
  refine (H2 _ B1.out).out.mono ?_
  rintro e w2 ⟨A2, n2, k2', A3, n3, k3, x2, rfl, ⟨rfl, _, hz⟩, hb2⟩
  simp only [List.cons.injEq, Value.slice.injEq, and_true] at hz
  obtain ⟨⟨rfl, rfl, rfl⟩, rfl, rfl, rfl⟩ := hz
  have hs2 := hb2.size
  have hsz : (w1.alloc (.cells #[.slice (some ⟨b, o, none⟩) 1 k0, .slice A1 n1 k1] 26)).heap.size = w1.heap.size + 1 := by simp
  have hB := fun obj => (hb2.alloc hb2.size obj)
  have B2 := Lib.hid (B1.out.trans (hb2.mono B1.out.size))
  have d0 := fun obj => ((hB obj).block w1.heap.size (by omega)).trans C1.out
  have d1 := fun obj => ((hB obj).cell (p := ⟨b, o + 4, none⟩) (by show b < _; omega)).trans ((World.cell?_of_block (a := ⟨b, o + 4, none⟩) (Below.heap_alloc _ _ _ hlb)).trans HC.out.1)
  have d2 := fun obj => ((hB obj).cell (p := ⟨b2, o2 + 12, none⟩) (by show b2 < _; omega)).trans ((World.cell?_of_block (a := ⟨b2, o2 + 12, none⟩) (Below.heap_alloc _ _ _ hlb2)).trans HC.out.2)
  obtain ⟨c0, c1, _⟩ := pa_two_cells (d0 (.cells #[.slice none 0 0, .slice none 0 0] 26))
  have c4 := d1 (.cells #[.slice none 0 0, .slice none 0 0] 26)
  have c5 := d2 (.cells #[.slice none 0 0, .slice none 0 0] 26)
  have B3 := Lib.hid (B2.out.alloc B2.out.size (.cells #[.slice none 0 0, .slice none 0 0] 26))
  clear d0 d1 d2 hb2 hB
  go_wp2_with fail
  go_ret
  exact ⟨rfl, B3.out⟩
end Go.Proofs.YtaohniiemhahdaaGreatDoor
/- What every law of token needs around its walk: the table of shapes and the library's own error as they are laid, the arguments read as they did, a world to show that the row is not empty. -/
namespace Go.Proofs.YtaohniiemhahdaaGreatDoor
open Go.ChangeShapes Go.WideShapes Go.ChangeAt Go.RowKit

theorem own : ownKnob Tryz.prog.godebug = none := by kernel_rfl
theorem laidOut : laidOutB Tryz.prog = true := by kernel_rfl
theorem gTab : Tryz.prog.globalNamed "seine/letters.shapes" = some 0 := by kernel_rfl
theorem gTabType : (Tryz.prog.globals[0]?).map (·.type) = some 203 := by kernel_rfl
theorem cellsTab : Tryz.prog.cellsOf 203 = 12 := by kernel_rfl
theorem cellsShape : Tryz.prog.cellsOf 202 = 3 := by kernel_rfl
theorem cellsInt : Tryz.prog.cellsOf 3 = 1 := by kernel_rfl

theorem one_shape {w : World} {cs : List Value} {m : Nat} {a b c : Int} {p : List MemPlace} (h : DataW.trod (fun _ => ()) Tryz.prog w 0 (fun _ => true) false m 202 cs = some (DataW.agg [.lit (.int .i64 a), .lit (.int .i64 b), .lit (.int .i64 c)], p)) :
    cs = [.int .i64 a, .int .i64 b, .int .i64 c] := by
  obtain ⟨y0, y1, y2, n, hx, hl, h0, h1, h2⟩ := Go.Deep.trod_struct3 Tryz.underlying202 h
  rw [cellsShape] at hl
  simp only [cellsInt] at h0 h1 h2
  obtain ⟨n0, c0, rfl, _⟩ := DataW.trod_int Tryz.underlying3 h0
  obtain ⟨n1, c1, rfl, _⟩ := DataW.trod_int Tryz.underlying3 h1
  obtain ⟨n2, c2, rfl, _⟩ := DataW.trod_int Tryz.underlying3 h2
  simp only [Prod.mk.injEq, DataW.agg.injEq, List.cons.injEq, DataW.lit.injEq, Lit.int.injEq, true_and, and_true] at hx
  obtain ⟨⟨rfl, rfl, rfl⟩, _⟩ := hx
  match cs, hl with
  | [x, y, z], _ =>
    simp at c0 c1 c2
    subst c0 c1 c2
    rfl
theorem table {W : World} (h : Lib.VarReads Tryz.prog W "seine/letters.shapes" Rows.laid_seine_letters_shapes) : TabAt W := by
  obtain ⟨g', t', cs, fuel, p, hg', ht', hvar, hd⟩ := h
  obtain rfl := Option.some.inj (gTab.symm.trans hg')
  obtain rfl := Option.some.inj (gTabType.symm.trans ht')
  obtain ⟨xs, m, _, hx, hl, hxl, hi⟩ := DataW.trod_array Tryz.underlying203 hd
  rw [cellsTab] at hl
  simp only [cellsShape] at hi
  match xs, hxl with
  | [x0, x1, x2, x3], _ =>
    simp only [Rows.laid_seine_letters_shapes, List.map_cons, List.map_nil, Prod.mk.injEq, DataW.agg.injEq, List.cons.injEq, and_true] at hx
    obtain ⟨⟨e0, e1, e2, e3⟩, _⟩ := hx
    have a0 := one_shape (p := x0.2) ((hi 0 (by omega)).trans (by rw [e0]; rfl))
    have a1 := one_shape (p := x1.2) ((hi 1 (by omega)).trans (by rw [e1]; rfl))
    have a2 := one_shape (p := x2.2) ((hi 2 (by omega)).trans (by rw [e2]; rfl))
    have a3 := one_shape (p := x3.2) ((hi 3 (by omega)).trans (by rw [e3]; rfl))
    have hcs : cs.toList = [.int .i64 0, .int .i64 128, .int .i64 0, .int .i64 192, .int .i64 224, .int .i64 128, .int .i64 224, .int .i64 240, .int .i64 2048, .int .i64 240, .int .i64 248, .int .i64 65536] := by
      have hl' : cs.toList.length = 12 := hl
      generalize cs.toList = l at *
      match l, hl' with
      | [b0, b1, b2, b3, b4, b5, b6, b7, b8, b9, b10, b11], _ =>
        simp at a0 a1 a2 a3
        obtain ⟨rfl, rfl, rfl⟩ := a0
        obtain ⟨rfl, rfl, rfl⟩ := a1
        obtain ⟨rfl, rfl, rfl⟩ := a2
        obtain ⟨rfl, rfl, rfl⟩ := a3
        rfl
    intro j z hz
    rw [World.var?_cell gTab hvar j]
    have : cs[j]? = cs.toList[j]? := by simp
    rw [this, hcs]
    have hj : j < 12 := (List.getElem?_eq_some_iff.1 hz).1
    match j, hj, hz with
    | 0, _, hz | 1, _, hz | 2, _, hz | 3, _, hz | 4, _, hz | 5, _, hz | 6, _, hz | 7, _, hz | 8, _, hz | 9, _, hz | 10, _, hz | 11, _, hz => cases hz; rfl

theorem gErr : Tryz.prog.globalNamed "strconv.ErrSyntax" = some 3 := by kernel_rfl
theorem gErrType : (Tryz.prog.globals[3]?).map (·.type) = some 99 := by kernel_rfl
theorem error_laid {W : World} (h : Lib.VarReads Tryz.prog W "strconv.ErrSyntax" Rows.laid_strconv_ErrSyntax) : ∃ te pe, W.cell? ⟨3, 0, none⟩ = some (.iface te pe) := by
  obtain ⟨g', t', cs, fuel, p, hg', ht', hvar, hd⟩ := h
  obtain rfl := Option.some.inj (gErr.symm.trans hg')
  obtain rfl := Option.some.inj (gErrType.symm.trans ht')
  obtain ⟨_, u, v, e, _, _⟩ := iface_of_trod Tryz.underlying99 hd
  refine ⟨u, v, ?_⟩
  rw [World.var?_cell gErr hvar 0]
  have : cs[0]? = cs.toList[0]? := by simp
  rw [this, e]
  rfl
/-- The listed variables, all of them. -/
abbrev allLaid : List (String × DataW Unit) := [("math/bits.deBruijn32tab", Rows.laid_math_bits_deBruijn32tab), ("math/bits.deBruijn64tab", Rows.laid_math_bits_deBruijn64tab), ("internal/strconv.uint64pow10", Rows.laid_internal_strconv_uint64pow10), ("strconv.ErrRange", Rows.laid_strconv_ErrRange), ("strconv.ErrSyntax", Rows.laid_strconv_ErrSyntax), ("seine/letters.shapes", Rows.laid_seine_letters_shapes)]
theorem laid3_of {W : World} (h : laidMetH Tryz.prog allLaid W) : Laid3 W := by
  rw [MakeChecks.laidMetH_plain _ _ _ (by kernel_rfl)] at h
  exact ⟨table (Lib.laidMet.reads h (by simp [allLaid])), error_laid (Lib.laidMet.reads h (by simp [allLaid]))⟩

/-- The arguments read behind the call as they did ahead of it. -/
theorem args_kept {H : Type} {enc : TypeId × Value → H} {W W' : World} (hb : Below W.heap.size W W') : ∀ (ts : List TypeId) (vs : List Value) (ds : List (DataW H)) (ps : List MemPlace),
    (∀ t ∈ ts, Tryz.prog.readableRec t = true ∧ t < Tryz.prog.types.size) → (∀ x ∈ ps, x.block < W.heap.size) →
    DataW.TrodAll enc Tryz.prog W 0 (fun _ => true) true ts vs ds ps → DataW.TrodAll enc Tryz.prog W' 0 (fun b => decide (b < W.heap.size)) true ts vs ds ps
  | [], [], [], _, _, _, h => h
  | t :: ts, v :: vs, d :: ds, ps, hr, hlt, ⟨p, q, h1, h2, e⟩ => by
    subst e
    refine ⟨p, q, ?_, ?_, rfl⟩
    · exact Below.trod laidOut (hr t (by simp)).1 (hr t (by simp)).2 h1 hb (fun x hx => hlt x (by simp [hx]))
    · exact args_kept hb ts vs ds q (fun t' ht' => hr t' (by simp [ht'])) (fun x hx => hlt x (by simp [hx])) h2
  | [], [], _ :: _, _, _, _, h => h.elim
  | [], _ :: _, _, _, _, _, h => h.elim
  | _ :: _, [], _, _, _, _, h => h.elim
  | _ :: _, _ :: _, [], _, _, _, h => h.elim

/-- What a law's row asks behind the call, of a law that answers true and leaves below its own blocks all as it was. -/
theorem law_post {H : Type} {enc : TypeId × Value → H} {f : Func} {s : ChangeSpec} {W W' : World} {args : Array Value} {ds gs : List (DataW H)} {before : List MemPlace}
    (hW : DataW.Whole enc Tryz.prog f.params.toList s.vars false W args.toList ds gs before) (hv : s.vars = []) (hf : f.resultTypes = #[4])
    (hr : ∀ t ∈ f.params.toList, Tryz.prog.readableRec t = true ∧ t < Tryz.prog.types.size)
    (hs1 : (s.fn H (ds ++ gs)).results = [.lit (.bool true)]) (hs2 : (s.fn H (ds ++ gs)).args = ds) (hs3 : (s.fn H (ds ++ gs)).vars = []) (hb : Below W.heap.size W W') :
    s.post enc Tryz.prog f false true false false W args (.bool true) W' := by
  have hlt : ∀ x ∈ before, x.block < W.heap.size := fun x hx => hW.lt x hx
  have hW0 := hW
  obtain ⟨p, q, hA, hV, e, _, _⟩ := hW0
  rw [hv] at hV
  obtain ⟨rfl, rfl⟩ := trodVars_none hV
  rw [List.append_nil] at e
  subst e
  refine ⟨ds, [], before, [], before, [], hW, ?_, ?_, ?_, World.keptBut_mono (fun x hx => ⟨hx, .inr (.inl hx)⟩) (hb.frame (· ∈ before)), fun h => by cases h⟩
  · rw [hs1, hf]; exact trodAll_mk1 (shut_bool Tryz.underlying4 _)
  · rw [hs2]; exact args_kept hb _ _ _ _ hr hlt hA
  · rw [hs3, hv]; rfl

/-- A world that holds the listed variables, for the witness. -/
noncomputable def laidWorld (os : Os) : World := World.laidAll Tryz.prog os allLaid
theorem laidWorld_met (os : Os) (args : Array Value) : laidMet Tryz.prog allLaid ((laidWorld os).forCall (fun _ _ => 0) ⟨#[], args, []⟩).memory :=
  laidMet_laidAll args (by kernel_rfl) (by kernel_rfl)
end Go.Proofs.YtaohniiemhahdaaGreatDoor
/- Plain mathematics: the tokens of a plain value, and that they tell the value. -/
namespace Go.Proofs.YtaohniiemhahdaaGreatDoor
/- The tokens of a plain value. -/
def nullT : ByteArray := ⟨#[110, 117, 108, 108]⟩
def trueT : ByteArray := ⟨#[116, 114, 117, 101]⟩
def falseT : ByteArray := ⟨#[102, 97, 108, 115, 101]⟩
def openT : ByteArray := ⟨#[91]⟩
def shutT : ByteArray := ⟨#[93]⟩
def openM : ByteArray := ⟨#[123]⟩
def shutM : ByteArray := ⟨#[125]⟩
def colonT : ByteArray := ⟨#[58]⟩
def dollarT : ByteArray := ⟨#[36]⟩
def itoaT (n : Int) : ByteArray := ⟨(Lib.itoa n).toArray⟩
mutual
def vtok : VT → List (Int × ByteArray)
  | .mk k n s l m =>
    if k = 0 then [(2, nullT)] else if k = 1 then [(2, if n = 1 then trueT else falseT)] else if k = 2 then [(3, itoaT n)]
    else if k = 3 then [(kindL s.data.toList, s)] else if k = 4 then [(5, s)] else if k = 5 then [(2, s)]
    else if k = 6 then (1, openT) :: (vtokL l ++ [(1, shutT)]) else if k = 7 then (1, openM) :: (vtokM m ++ [(1, shutM)])
    else if k = 8 then [(1, dollarT), (2, s)] else []
def vtokL : VL → List (Int × ByteArray)
  | .nil => []
  | .cons v t => vtok v ++ vtokL t
def vtokM : VM → List (Int × ByteArray)
  | .nil => []
  | .cons nm v t => (2, nm) :: (1, colonT) :: (vtok v ++ vtokM t)
end
mutual
/-- The numbers are of 64 bits. -/
def RngV : VT → Prop
  | .mk _ n _ l m => (-9223372036854775808 ≤ n ∧ n ≤ 9223372036854775807) ∧ RngL l ∧ RngM m
def RngL : VL → Prop
  | .nil => True
  | .cons v t => RngV v ∧ RngL t
def RngM : VM → Prop
  | .nil => True
  | .cons _ v t => RngV v ∧ RngM t
end
/-- The kind of the value that begins with this token; 9: none. -/
def cls (t : Int × ByteArray) : Int :=
  if t.1 = 1 then (if t.2.data.toList = [91] then 6 else if t.2.data.toList = [123] then 7 else if t.2.data.toList = [36] then 8 else 9)
  else if t.1 = 2 then (if t.2.data.toList = nullL then 0 else if t.2.data.toList = trueL ∨ t.2.data.toList = falseL then 1 else 5)
  else if t.1 = 3 then (if fits64 (intN t.2.data.toList) = true then 2 else 3)
  else if t.1 = 4 then 3 else 4
end Go.Proofs.YtaohniiemhahdaaGreatDoor
/- A value that comes in, opened with all that is known of it: it lies in memory that was there, its numbers are of 64 bits, its bulk bounds its size, the reach bounds its lists. -/
namespace Go.Proofs.YtaohniiemhahdaaGreatDoor
open Go.ChangeShapes Go.WideShapes Go.ChangeAt Go.RowKit

def OpenedV {H : Type} (W : World) (cs : List Value) (d : DataW H) : Prop := ∃ v c0 c1 c2 c3 c4, cs = [c0, c1, c2, c3, c4] ∧ VAt W W.heap.size v c0 c1 c2 c3 c4 ∧ RngV v ∧ sizeV v ≤ Rows.uptoBulk d ∧ ((∀ m ∈ d.weights Tryz.prog 35, m ≤ reachBytes) → SlimV v)
def OpenedM {H : Type} (W : World) (cs : List Value) (d : DataW H) : Prop := ∃ nm v c0 c1 c2 c3 c4, cs = [.string nm, c0, c1, c2, c3, c4] ∧ nm.size ≤ 9223372036854775807 ∧ VAt W W.heap.size v c0 c1 c2 c3 c4 ∧ RngV v ∧ nm.size + sizeV v ≤ Rows.uptoBulk d ∧ ((∀ m ∈ d.weights Tryz.prog 108, m ≤ reachBytes) → SlimV v)
end Go.Proofs.YtaohniiemhahdaaGreatDoor
/- What the law ValueReads needs around its walk, beside what the laws of token need: two listed variables more, a value opened. -/
namespace Go.Proofs.YtaohniiemhahdaaGreatDoor
open Go.ChangeShapes Go.WideShapes Go.ChangeAt Go.RowKit

theorem gRange : Tryz.prog.globalNamed "strconv.ErrRange" = some 4 := by kernel_rfl
theorem gRangeType : (Tryz.prog.globals[4]?).map (·.type) = some 99 := by kernel_rfl
theorem range_laid {W : World} (h : Lib.VarReads Tryz.prog W "strconv.ErrRange" Rows.laid_strconv_ErrRange) : ∃ te pe, W.cell? ⟨4, 0, none⟩ = some (.iface te pe) := by
  obtain ⟨g', t', cs, fuel, p, hg', ht', hvar, hd⟩ := h
  obtain rfl := Option.some.inj (gRange.symm.trans hg')
  obtain rfl := Option.some.inj (gRangeType.symm.trans ht')
  obtain ⟨_, u, v, e, _, _⟩ := iface_of_trod Tryz.underlying99 hd
  refine ⟨u, v, ?_⟩
  rw [World.var?_cell gRange hvar 0]
  have : cs[0]? = cs.toList[0]? := by simp
  rw [this, e]
  rfl
theorem gPowType : (Tryz.prog.globals[2]?).map (·.type) = some 230 := by kernel_rfl
theorem pow_laid {W : World} (h : Lib.VarReads Tryz.prog W "internal/strconv.uint64pow10" Rows.laid_internal_strconv_uint64pow10) : Lib.TabIs Tryz.prog W "internal/strconv.uint64pow10" .u64 Lib.pow10Tab := by
  obtain ⟨g', t', cs, fuel, p, hg', ht', hvar, hd⟩ := h
  obtain rfl := Option.some.inj (gPow.symm.trans hg')
  obtain rfl := Option.some.inj (gPowType.symm.trans ht')
  have hd' : DataW.trod (fun _ => ()) Tryz.prog W 0 (fun _ => true) false fuel 230 cs.toList = some (Lib.tabData .u64 Lib.pow10Tab, p) := hd
  have := Lib.cells_of_tab Tryz.underlying230 Tryz.underlying194 (by kernel_rfl) (by kernel_rfl) hd'
  unfold Lib.TabIs
  rw [hvar, ← this]
theorem laid5_of {W : World} (h : laidMetH Tryz.prog allLaid W) : Laid5 W := by
  rw [MakeChecks.laidMetH_plain _ _ _ (by kernel_rfl)] at h
  exact ⟨table (Lib.laidMet.reads h (by simp [allLaid])), range_laid (Lib.laidMet.reads h (by simp [allLaid])), pow_laid (Lib.laidMet.reads h (by simp [allLaid]))⟩
end Go.Proofs.YtaohniiemhahdaaGreatDoor
/- What the laws of parse need around their walks: an api.Type opened, with the length of its name. -/
namespace Go.Proofs.YtaohniiemhahdaaGreatDoor
open Go.ChangeShapes Go.WideShapes Go.ChangeAt Go.RowKit

theorem cellsTypeP : Tryz.prog.cellsOf 39 = 3 := by kernel_rfl
theorem cellsIntP : Tryz.prog.cellsOf 3 = 1 := by kernel_rfl
theorem cellsStrP : Tryz.prog.cellsOf 9 = 1 := by kernel_rfl
set_option maxRecDepth 100000 in
theorem open_ptype {H : Type} {enc : TypeId × Value → H} {W : World} {base : Nat} {v : Value} {d : DataW H} {ps : List MemPlace} (hval : Value.okWide Tryz.prog W .any base 39 v) (hd : DataW.Trod enc Tryz.prog W 0 (fun _ => true) true 39 v d ps)
    (hz : ∀ m ∈ d.weights Tryz.prog 39, m ≤ reachBytes) :
    ∃ (n : ByteArray) (l m : Int), v = .agg #[.string n, .int .i64 l, .int .i64 m] ∧ n.size ≤ 140737488355328 := by
  obtain ⟨cs, rfl, hsz⟩ := okWide_struct Tryz.underlying39 hval
  obtain ⟨fuel, hf⟩ := hd
  obtain ⟨y0, y1, y2, n, hx, hl, h0, h1, h2⟩ := Go.Deep.trod_struct3 Tryz.underlying39 hf
  rw [cellsTypeP] at hl hsz
  simp only [cellsIntP, cellsStrP] at h0 h1 h2
  obtain ⟨s, c0, x0, _⟩ := DataW.trod_string Tryz.underlying9 h0
  obtain ⟨l, c1, x1, w1⟩ := DataW.trod_int Tryz.underlying3 h1
  obtain ⟨m, c2, x2, w2⟩ := DataW.trod_int Tryz.underlying3 h2
  refine ⟨s, l, m, ?_, ?_⟩
  · obtain ⟨L⟩ := cs
    match L, hsz with
    | [x, y, z], _ =>
      simp [Value.cells] at c0 c1 c2
      subst c0 c1 c2
      rfl
  · simp only [Prod.mk.injEq] at hx
    have h1 := hz s.size (by
      rw [hx.1]
      simp only [DataW.weights, Tryz.underlying39, List.map_cons, List.map_nil, DataW.weightsEach, x0]
      simp)
    have : reachBytes ≤ 140737488355328 := by decide
    omega
end Go.Proofs.YtaohniiemhahdaaGreatDoor
/- seineref6.SameDirs over equal directives. -/
namespace Go.Proofs.YtaohniiemhahdaaGreatDoor
open Go.RowKit

theorem rowOf_at {α : Type} {f : α → TrS} {w : World} {P : Nat → Prop} (n : Nat) (hn : ∀ a, (f a).len = n) : ∀ {l : List α} {A : Option Addr} {q : Nat} {x : α}, RowT w P (rowOf f l) A → l[q]? = some x →
    ∃ b o cs, A = some ⟨b, o, none⟩ ∧ P b ∧ (∀ j u, cs[j]? = some u → w.cell? ⟨b, o + q * n + j, none⟩ = some u) ∧ TS w P (f x) cs
  | [], _, _, _, _, h => by simp at h
  | a :: t, A, 0, x, h, hx => by
    obtain rfl : a = x := by simpa using hx
    rw [rowOf] at h
    unfold RowT at h
    obtain ⟨b, o, cs, e, hb, hc, h1, _⟩ := h
    exact ⟨b, o, cs, e, hb, fun j u hj => by rw [Nat.zero_mul, Nat.add_zero]; exact hc j u hj, h1⟩
  | a :: t, A, q + 1, x, h, hx => by
    rw [rowOf] at h
    unfold RowT at h
    obtain ⟨b, o, cs, e, hb, hc, h1, h2⟩ := h
    have hx : t[q]? = some x := by simpa using hx
    obtain ⟨b', o', cs', e', hb', hc', h1'⟩ := rowOf_at n hn h2 hx
    have e' := Option.some.inj e'
    injection e' with e1 e2 _
    subst e1 e2
    rw [hn] at hc'
    exact ⟨b, o, cs', e, hb, fun j u hj => by rw [Nat.add_mul, Nat.one_mul, Nat.add_comm (q * n) n, ← Nat.add_assoc]; exact hc' j u hj, h1'⟩
theorem RowT.below {w w' : World} {B : Nat} (hb : Below B w w') {l : TrL} {A : Option Addr} (h : RowT w (fun b => b < B) l A) : RowT w' (fun b => b < B) l A :=
  RowT.keep (fun b hlt => ⟨hlt, hb.block b hlt⟩) _ _ h
theorem mat_of {w : World} {B : Nat} {m : VM} {A : Option Addr} (h : RowT w (fun b => b < B) (encM m) A) : MAt w B m A 0 := MP.at (fun _ h => h) m A 0 (tl_mp m A 0 (by rw [Nat.zero_mul, shiftA_zero]; exact h))
theorem encD_len (d : DirT) : (encD d).len = 2 := rfl
theorem dir_at {w : World} {B : Nat} {l : List DirT} {A : Option Addr} {q : Nat} {nm : ByteArray} {m : VM} (h : RowT w (fun b => b < B) (rowOf encD l) A) (hx : l[q]? = some (nm, m)) :
    ∃ b o A2 k2, A = some ⟨b, o, none⟩ ∧ b < B ∧ w.cell? ⟨b, o + q * 2, none⟩ = some (.string nm) ∧ w.cell? ⟨b, o + q * 2 + 1, none⟩ = some (.slice A2 m.len k2) ∧ m.len ≤ 9223372036854775807 ∧ MAt w B m A2 0 := by
  obtain ⟨b, o, cs, e, hb, hc, h1⟩ := rowOf_at 2 encD_len h hx
  simp only [encD, TS, TP] at h1
  obtain ⟨c0, _, rfl, ⟨rfl, _⟩, c1, _, rfl, ⟨A2, k2, rfl, hl, hM⟩, rfl⟩ := h1
  rw [encM_len] at hc hl
  exact ⟨b, o, A2, k2, e, hb, hc 0 _ rfl, hc 1 _ rfl, hl, mat_of hM⟩
theorem memb_yes (m : VM) (A A' : Option Addr) (c c' : Nat) (w : World) (B : Nat) (hB : B ≤ w.heap.size) (hl : m.len ≤ 9223372036854775807) (h1 : MAt w B m A 0) (h2 : MAt w B m A' 0) :
    Calls Tryz.prog 41 #[.slice A m.len c, .slice A' m.len c'] w fun e w' => e = .returned (.bool true) ∧ Below w.heap.size w w' := by
  refine (vmemb_any m m A A' c c' w B hB hl hl h1 h2).mono ?_
  rintro e' w' ⟨⟨b, rfl, hb⟩, hw⟩
  rw [hb.2 rfl]
  exact ⟨rfl, hw⟩
def KD (w : World) (b O : Nat) (nm d : Value) (b' O' : Nat) (nm' f : Value) (W : World) : Prop :=
  W.cell? ⟨b, O, none⟩ = some nm ∧ W.cell? ⟨b, O + 1, none⟩ = some d ∧ W.cell? ⟨b', O', none⟩ = some nm' ∧ W.cell? ⟨b', O' + 1, none⟩ = some f ∧ Below w.heap.size w W
theorem KD.next {w W W' : World} {b O : Nat} {nm d : Value} {b' O' : Nat} {nm' f : Value} (h : KD w b O nm d b' O' nm' f W) (hl : b < w.heap.size) (hl' : b' < w.heap.size) (hb : Below W.heap.size W W') : KD w b O nm d b' O' nm' f W' := by
  obtain ⟨h1, h2, h3, h4, hB⟩ := h
  have g := Nat.lt_of_lt_of_le hl hB.size
  have g' := Nat.lt_of_lt_of_le hl' hB.size
  exact ⟨(hb.cell (p := ⟨b, _, none⟩) g).trans h1, (hb.cell (p := ⟨b, _, none⟩) g).trans h2, (hb.cell (p := ⟨b', _, none⟩) g').trans h3, (hb.cell (p := ⟨b', _, none⟩) g').trans h4, hB.trans (hb.mono hB.size)⟩
theorem KD.written {w W : World} {b O : Nat} {nm d : Value} {b' O' : Nat} {nm' f : Value} (h : KD w b O nm d b' O' nm' f W) :
    W.cell? ⟨b, O, none⟩ = some nm ∧ W.cell? ⟨b, O + 1, none⟩ = some d ∧ W.cell? ⟨b', O', none⟩ = some nm' ∧ W.cell? ⟨b', O' + 1, none⟩ = some f ∧ KD w b O nm d b' O' nm' f W :=
  ⟨h.1, h.2.1, h.2.2.1, h.2.2.2.1, h⟩

set_option maxRecDepth 100000 in
set_option maxHeartbeats 4000000 in
theorem dirs_yes (l : List DirT) (A A' : Option Addr) (c c' : Nat) (w : World) (B : Nat) (hB : B ≤ w.heap.size) (hl : l.length ≤ 9223372036854775807) (h1 : RowT w (fun b => b < B) (rowOf encD l) A) (h2 : RowT w (fun b => b < B) (rowOf encD l) A') :
    Calls Tryz.prog 81 #[.slice A l.length c, .slice A' l.length c'] w fun e w' => e = .returned (.bool true) ∧ Below w.heap.size w w' := by
  have H1 := Lib.hid h1
  have H2 := Lib.hid h2
  have HB0 := Lib.hid hB
  clear h1 h2 hB
  have e0 : ((l.length : Int) != (l.length : Int)) = false := by simp
  go_enter Tryz.func81, Tryz.ntmps81
  go_wp2_with fail
  go_loopg [5] l.length (fun g i wx => ∃ q : Nat, q + g = l.length ∧ i = .int .i64 q ∧ Below w.heap.size w wx)
  case atStart => exact ⟨0, by omega, rfl, Below.refl _ _⟩
  case round =>
    obtain ⟨q, hq, rfl, hb⟩ := hrel
    have HBB := Lib.hid hb
    clear hb
    cases gk with
    | zero =>
      obtain rfl : q = l.length := by omega
      go_wp2_with fail
      go_ret
      exact ⟨rfl, HBB.out⟩
    | succ g =>
      have hqn : q < l.length := by omega
      have hqn' : (q : Int) < (l.length : Int) := by omega
      obtain ⟨⟨nm, m⟩, hv⟩ : ∃ x, l[q]? = some x := ⟨_, List.getElem?_eq_getElem hqn⟩
      obtain ⟨b, o, A2, k2, rfl, hblt, hnm, hcs, hml, hM⟩ := dir_at (RowT.below (HBB.out.mono HB0.out) H1.out) hv
      obtain ⟨b', o', A3, k3, rfl, hblt', hnm', hcs', _, hM'⟩ := dir_at (RowT.below (HBB.out.mono HB0.out) H2.out) hv
      clear hv
      have e1 : (nm.toList != nm.toList) = false := by simp
      have e1' : (nm.toList == nm.toList) = true := by simp
      have HBW : Hid (b < w.heap.size) := Lib.hid (Nat.lt_of_lt_of_le hblt HB0.out)
      have HBW' : Hid (b' < w.heap.size) := Lib.hid (Nat.lt_of_lt_of_le hblt' HB0.out)
      have hE0 : KD w b (o + q * 2) (.string nm) (.slice A2 m.len k2) b' (o' + q * 2) (.string nm) (.slice A3 m.len k3) wr := ⟨hnm, hcs, hnm', hcs', HBB.out⟩
      have C := fun (wx : World) (hx : Below wr.heap.size wr wx) => Lib.hid (memb_yes m A2 A3 k2 k3 wx B (Nat.le_trans HB0.out (Nat.le_trans HBB.out.size hx.size)) hml (MAt.below (hx.mono (Nat.le_trans HB0.out HBB.out.size)) _ _ _ hM) (MAt.below (hx.mono (Nat.le_trans HB0.out HBB.out.size)) _ _ _ hM'))
      clear hM hM' hblt hblt'
      go_wp2_with fail
      go_region_held3 (fun w' => w'.cell? ⟨b, o + q * 2, none⟩ = some (.string nm) ∧ w'.cell? ⟨b, o + q * 2 + 1, none⟩ = some (.slice A2 m.len k2) ∧ w'.cell? ⟨b', o' + q * 2, none⟩ = some (.string nm) ∧ w'.cell? ⟨b', o' + q * 2 + 1, none⟩ = some (.slice A3 m.len k3) ∧ KD w b (o + q * 2) (.string nm) (.slice A2 m.len k2) b' (o' + q * 2) (.string nm) (.slice A3 m.len k3) w')
        (first
          | exact KD.written (KD.next hE0 HBW.out HBW'.out (Below.drew (Below.refl _ _)))
          | exact KD.written ((KD.next hE0 HBW.out HBW'.out (Below.drew (Below.refl _ _))).next HBW.out HBW'.out (by assumption))
          | exact KD.written (KD.next hE0 HBW.out HBW'.out (by assumption))
          | exact KD.written (KD.next (by assumption) HBW.out HBW'.out (by assumption))
          | go_keep)
        ((first | (go_at_call 41; refine (C _ (by first | exact Below.drew (Below.refl _ _) | exact Below.refl _ _ | assumption)).out.mono ?_; rintro e w' ⟨rfl, hb⟩)))
      all_goals
        have HKM : KD w b (o + q * 2) (.string nm) (.slice A2 m.len k2) b' (o' + q * 2) (.string nm) (.slice A3 m.len k3) w' := And.right (And.right (And.right (And.right (by assumption))))
        have HKB := Lib.hid HKM.2.2.2.2
        clear HKM hE0 C hnm hcs hnm' hcs'
        go_wp2_with fail
        go_roundg g
        case measure => omega
        case rel => exact ⟨q + 1, by omega, by go_num, HKB.out⟩
end Go.Proofs.YtaohniiemhahdaaGreatDoor
