/- Structs and rows of any kind as plain trees; how they lie in memory. (wip/parse/XTr, cut; the numbers of a type are any.) -/
import Derived.Test.YtcfdfgbobnocnaaGreatDoorCards
import Derived.Test.YtcfdfgbobnocnaaGreatDoorTie
import Derived.Test.YtcfdfgbobnocnaaGreatDoorVOpen
import Derived.Test.YtcfdfgbobnocnaaGreatDoorVShelf
import Derived.WalkKit
import Derived.ProofKit
import Derived.OpenShut
import Derived.Carry
import Derived.Deep.Strs
import Derived.Deep.DeepHandedRow
import Derived.Lib.LaidTab
import Derived.Lib.LaidU8
import Derived.Lay
import Derived.MakeChecks
namespace Go.Proofs.YtcfdfgbobnocnaaGreatDoor
open Go.ChangeShapes Go.WideShapes Go.ChangeAt Go.RowKit

theorem own : ownKnob Tryz.prog.godebug = none := by kernel_rfl
theorem laidOut : laidOutB Tryz.prog = true := by kernel_rfl
theorem gTab : Tryz.prog.globalNamed "seine/letters.shapes" = some 0 := by kernel_rfl
theorem gTabType : (Tryz.prog.globals[0]?).map (·.type) = some 127 := by kernel_rfl
theorem cellsTab : Tryz.prog.cellsOf 127 = 12 := by kernel_rfl
theorem cellsShape : Tryz.prog.cellsOf 126 = 3 := by kernel_rfl
theorem cellsInt : Tryz.prog.cellsOf 3 = 1 := by kernel_rfl

theorem one_shape {w : World} {cs : List Value} {m : Nat} {a b c : Int} {p : List MemPlace} (h : DataW.trod (fun _ => ()) Tryz.prog w 0 (fun _ => true) false m 126 cs = some (DataW.agg [.lit (.int .i64 a), .lit (.int .i64 b), .lit (.int .i64 c)], p)) :
    cs = [.int .i64 a, .int .i64 b, .int .i64 c] := by
  obtain ⟨y0, y1, y2, n, hx, hl, h0, h1, h2⟩ := Go.Deep.trod_struct3 Tryz.underlying126 h
  rw [cellsShape] at hl
  simp only [cellsInt] at h0 h1 h2
  obtain ⟨n0, c0, rfl, _⟩ := DataW.trod_int Tryz.underlying3 h0
  obtain ⟨n1, c1, rfl, _⟩ := DataW.trod_int Tryz.underlying3 h1
  obtain ⟨n2, c2, rfl, _⟩ := DataW.trod_int Tryz.underlying3 h2
  simp only [Prod.mk.injEq, DataW.agg.injEq, List.cons.injEq, DataW.lit.injEq, Lit.int.injEq, true_and, and_true] at hx
  obtain ⟨⟨rfl, rfl, rfl⟩, _⟩ := hx
  match cs, hl with
  | [x, y, z], _ =>
    simp at c0 c1 c2
    subst c0 c1 c2
    rfl
theorem table {W : World} (h : Lib.VarReads Tryz.prog W "seine/letters.shapes" Rows.laid_seine_letters_shapes) : TabAt W := by
  obtain ⟨g', t', cs, fuel, p, hg', ht', hvar, hd⟩ := h
  obtain rfl := Option.some.inj (gTab.symm.trans hg')
  obtain rfl := Option.some.inj (gTabType.symm.trans ht')
  obtain ⟨xs, m, _, hx, hl, hxl, hi⟩ := DataW.trod_array Tryz.underlying127 hd
  rw [cellsTab] at hl
  simp only [cellsShape] at hi
  match xs, hxl with
  | [x0, x1, x2, x3], _ =>
    simp only [Rows.laid_seine_letters_shapes, List.map_cons, List.map_nil, Prod.mk.injEq, DataW.agg.injEq, List.cons.injEq, and_true] at hx
    obtain ⟨⟨e0, e1, e2, e3⟩, _⟩ := hx
    have a0 := one_shape (p := x0.2) ((hi 0 (by omega)).trans (by rw [e0]; rfl))
    have a1 := one_shape (p := x1.2) ((hi 1 (by omega)).trans (by rw [e1]; rfl))
    have a2 := one_shape (p := x2.2) ((hi 2 (by omega)).trans (by rw [e2]; rfl))
    have a3 := one_shape (p := x3.2) ((hi 3 (by omega)).trans (by rw [e3]; rfl))
    have hcs : cs.toList = [.int .i64 0, .int .i64 128, .int .i64 0, .int .i64 192, .int .i64 224, .int .i64 128, .int .i64 224, .int .i64 240, .int .i64 2048, .int .i64 240, .int .i64 248, .int .i64 65536] := by
      have hl' : cs.toList.length = 12 := hl
      generalize cs.toList = l at *
      match l, hl' with
      | [b0, b1, b2, b3, b4, b5, b6, b7, b8, b9, b10, b11], _ =>
        simp at a0 a1 a2 a3
        obtain ⟨rfl, rfl, rfl⟩ := a0
        obtain ⟨rfl, rfl, rfl⟩ := a1
        obtain ⟨rfl, rfl, rfl⟩ := a2
        obtain ⟨rfl, rfl, rfl⟩ := a3
        rfl
    intro j z hz
    rw [World.var?_cell gTab hvar j]
    have : cs[j]? = cs.toList[j]? := by simp
    rw [this, hcs]
    have hj : j < 12 := (List.getElem?_eq_some_iff.1 hz).1
    match j, hj, hz with
    | 0, _, hz | 1, _, hz | 2, _, hz | 3, _, hz | 4, _, hz | 5, _, hz | 6, _, hz | 7, _, hz | 8, _, hz | 9, _, hz | 10, _, hz | 11, _, hz => cases hz; rfl

theorem gErr : Tryz.prog.globalNamed "strconv.ErrRange" = some 2 := by kernel_rfl
theorem gErrType : (Tryz.prog.globals[2]?).map (·.type) = some 122 := by kernel_rfl
theorem error_laid {W : World} (h : Lib.VarReads Tryz.prog W "strconv.ErrRange" Rows.laid_strconv_ErrRange) : ∃ te pe, W.cell? ⟨2, 0, none⟩ = some (.iface te pe) := by
  obtain ⟨g', t', cs, fuel, p, hg', ht', hvar, hd⟩ := h
  obtain rfl := Option.some.inj (gErr.symm.trans hg')
  obtain rfl := Option.some.inj (gErrType.symm.trans ht')
  obtain ⟨_, u, v, e, _, _⟩ := iface_of_trod Tryz.underlying122 hd
  refine ⟨u, v, ?_⟩
  rw [World.var?_cell gErr hvar 0]
  have : cs[0]? = cs.toList[0]? := by simp
  rw [this, e]
  rfl
theorem gPowType : (Tryz.prog.globals[3]?).map (·.type) = some 170 := by kernel_rfl
theorem pow_laid {W : World} (h : Lib.VarReads Tryz.prog W "internal/strconv.uint64pow10" Rows.laid_internal_strconv_uint64pow10) : Lib.TabIs Tryz.prog W "internal/strconv.uint64pow10" .u64 Lib.pow10Tab := by
  obtain ⟨g', t', cs, fuel, p, hg', ht', hvar, hd⟩ := h
  obtain rfl := Option.some.inj (gPow.symm.trans hg')
  obtain rfl := Option.some.inj (gPowType.symm.trans ht')
  have hd' : DataW.trod (fun _ => ()) Tryz.prog W 0 (fun _ => true) false fuel 170 cs.toList = some (Lib.tabData .u64 Lib.pow10Tab, p) := hd
  have := Lib.cells_of_tab Tryz.underlying170 Tryz.underlying143 (by kernel_rfl) (by kernel_rfl) hd'
  unfold Lib.TabIs
  rw [hvar, ← this]
/-- The listed variables, all of them. -/
abbrev allLaid : List (String × DataW Unit) := [("math/bits.deBruijn32tab", Rows.laid_math_bits_deBruijn32tab), ("math/bits.deBruijn64tab", Rows.laid_math_bits_deBruijn64tab), ("internal/strconv.uint64pow10", Rows.laid_internal_strconv_uint64pow10), ("strconv.ErrRange", Rows.laid_strconv_ErrRange), ("strconv.ErrSyntax", Rows.laid_strconv_ErrSyntax), ("seine/letters.shapes", Rows.laid_seine_letters_shapes)]
theorem laid5_of {W : World} (h : laidMetH Tryz.prog allLaid W) : Laid5 W := by
  rw [MakeChecks.laidMetH_plain _ _ _ (by kernel_rfl)] at h
  exact ⟨table (Lib.laidMet.reads h (by simp [allLaid])), error_laid (Lib.laidMet.reads h (by simp [allLaid])), pow_laid (Lib.laidMet.reads h (by simp [allLaid]))⟩
set_option maxRecDepth 100000 in
/-- The arguments, opened. -/
theorem open_val {H : Type} {enc : TypeId × Value → H} {W : World} {base : Nat} {v : Value} {d : DataW H} {ps : List MemPlace} (hval : Value.okWide Tryz.prog W .any base 30 v) (hd : DataW.Trod enc Tryz.prog W 0 (fun _ => true) true 30 v d ps) :
    ∃ x c0 c1 c2 c3 c4, v = .agg #[c0, c1, c2, c3, c4] ∧ VAt W W.heap.size x c0 c1 c2 c3 c4 ∧ RngV x ∧ sizeV x ≤ Rows.uptoBulk d ∧ ((∀ m ∈ d.weights Tryz.prog 30, m ≤ reachBytes) → SlimV x) := by
  obtain ⟨cs, rfl, hsz⟩ := okWide_struct Tryz.underlying30 hval
  obtain ⟨fuel, hf⟩ := hd
  obtain ⟨x, c0, c1, c2, c3, c4, hc, h1, h2, h3, h4⟩ := value_opened fuel _ _ hf
  refine ⟨x, c0, c1, c2, c3, c4, ?_, h1, h2, h3, h4⟩
  obtain ⟨L⟩ := cs
  rw [cellsV] at hsz
  match L, hsz with
  | [a, b, c, e, f], _ =>
    simp [Value.cells] at hc
    obtain ⟨rfl, rfl, rfl, rfl, rfl⟩ := hc
    rfl
set_option maxRecDepth 100000 in
theorem open_mems {H : Type} {enc : TypeId × Value → H} {W : World} {base : Nat} {v : Value} {d : DataW H} {ps : List MemPlace} (hval : Value.okWide Tryz.prog W .any base 28 v) (hd : DataW.Trod enc Tryz.prog W 0 (fun _ => true) true 28 v d ps) :
    ∃ (l : VM) (A : Option Addr) (c : Nat), v = .slice A l.len c ∧ l.len ≤ 9223372036854775807 ∧ MAt W W.heap.size l A 0 := by
  obtain ⟨A, n, c, rfl⟩ := okWide_slice Tryz.underlying28 hval
  obtain ⟨fuel, hf⟩ := hd
  obtain ⟨l, A', c', h1, h2, h3, _⟩ := mslice_opened (fun n _ cs x h => value_opened n cs x h) hf
  exact ⟨l, A', c', h1, h2, h3⟩
set_option maxRecDepth 100000 in
theorem open_vals {H : Type} {enc : TypeId × Value → H} {W : World} {base : Nat} {v : Value} {d : DataW H} {ps : List MemPlace} (hval : Value.okWide Tryz.prog W .any base 27 v) (hd : DataW.Trod enc Tryz.prog W 0 (fun _ => true) true 27 v d ps) :
    ∃ (l : VL) (A : Option Addr) (c : Nat), v = .slice A l.len c ∧ l.len ≤ 9223372036854775807 ∧ LAt W W.heap.size l A 0 ∧ RngL l ∧ sizeL l + 1 ≤ Rows.uptoBulk d := by
  obtain ⟨A, n, c, rfl⟩ := okWide_slice Tryz.underlying27 hval
  obtain ⟨fuel, hf⟩ := hd
  obtain ⟨l, A', c', h1, h2, h3, h4, h5, _⟩ := slice_opened (fun n _ cs x h => value_opened n cs x h) hf
  exact ⟨l, A', c', h1, h2, h3, h4, h5⟩
/-- A part's bulk is at most the whole's. -/
theorem bulk_part {H : Type} {d : DataW H} : ∀ {l : List (DataW H)}, d ∈ l → Rows.uptoBulk d ≤ Rows.uptoBulkAll l
  | [], h => by simp at h
  | x :: r, h => by
    rw [Rows.uptoBulkAll]
    rcases List.mem_cons.1 h with rfl | h
    · omega
    · have := bulk_part h; omega

/-- The arguments read behind the call as they did ahead of it. -/
theorem args_kept {H : Type} {enc : TypeId × Value → H} {W W' : World} (hb : Below W.heap.size W W') : ∀ (ts : List TypeId) (vs : List Value) (ds : List (DataW H)) (ps : List MemPlace),
    (∀ t ∈ ts, Tryz.prog.readableRec t = true ∧ t < Tryz.prog.types.size) → (∀ x ∈ ps, x.block < W.heap.size) →
    DataW.TrodAll enc Tryz.prog W 0 (fun _ => true) true ts vs ds ps → DataW.TrodAll enc Tryz.prog W' 0 (fun b => decide (b < W.heap.size)) true ts vs ds ps
  | [], [], [], _, _, _, h => h
  | t :: ts, v :: vs, d :: ds, ps, hr, hlt, ⟨p, q, h1, h2, e⟩ => by
    subst e
    refine ⟨p, q, ?_, ?_, rfl⟩
    · exact Below.trod laidOut (hr t (by simp)).1 (hr t (by simp)).2 h1 hb (fun x hx => hlt x (by simp [hx]))
    · exact args_kept hb ts vs ds q (fun t' ht' => hr t' (by simp [ht'])) (fun x hx => hlt x (by simp [hx])) h2
  | [], [], _ :: _, _, _, _, h => h.elim
  | [], _ :: _, _, _, _, _, h => h.elim
  | _ :: _, [], _, _, _, _, h => h.elim
  | _ :: _, _ :: _, [], _, _, _, h => h.elim

/-- What a law's row asks behind the call, of a law that answers true and leaves below its own blocks all as it was. -/
theorem law_post {H : Type} {enc : TypeId × Value → H} {f : Func} {s : ChangeSpec} {W W' : World} {args : Array Value} {ds gs : List (DataW H)} {before : List MemPlace}
    (hW : DataW.Whole enc Tryz.prog f.params.toList s.vars false W args.toList ds gs before) (hv : s.vars = []) (hf : f.resultTypes = #[4])
    (hr : ∀ t ∈ f.params.toList, Tryz.prog.readableRec t = true ∧ t < Tryz.prog.types.size)
    (hs1 : (s.fn H (ds ++ gs)).results = [.lit (.bool true)]) (hs2 : (s.fn H (ds ++ gs)).args = ds) (hs3 : (s.fn H (ds ++ gs)).vars = []) (hb : Below W.heap.size W W') :
    s.post enc Tryz.prog f false true false false W args (.bool true) W' := by
  have hlt : ∀ x ∈ before, x.block < W.heap.size := fun x hx => hW.lt x hx
  have hW0 := hW
  obtain ⟨p, q, hA, hV, e, _, _⟩ := hW0
  rw [hv] at hV
  obtain ⟨rfl, rfl⟩ := trodVars_none hV
  rw [List.append_nil] at e
  subst e
  refine ⟨ds, [], before, [], before, [], hW, ?_, ?_, ?_, World.keptBut_mono (fun x hx => ⟨hx, .inr (.inl hx)⟩) (hb.frame (· ∈ before)), fun h => by cases h⟩
  · rw [hs1, hf]; exact trodAll_mk1 (shut_bool Tryz.underlying4 _)
  · rw [hs2]; exact args_kept hb _ _ _ _ hr hlt hA
  · rw [hs3, hv]; rfl

/-- A world that holds the listed variables, for the witness. -/
noncomputable def laidWorld (os : Os) : World := World.laidAll Tryz.prog os allLaid
theorem laidWorld_met (os : Os) (args : Array Value) : laidMet Tryz.prog allLaid ((laidWorld os).forCall (fun _ _ => 0) ⟨#[], args, []⟩).memory :=
  laidMet_laidAll args (by kernel_rfl) (by kernel_rfl)
end Go.Proofs.YtcfdfgbobnocnaaGreatDoor
namespace Go.Proofs.YtcfdfgbobnocnaaGreatDoor
open Go.RowKit

mutual
inductive Tr where
  | one (v : Value)
  | row (l : TrL)
inductive TrS where
  | nil
  | cons (x : Tr) (t : TrS)
inductive TrL where
  | nil
  | cons (s : TrS) (t : TrL)
end
def TrS.len : TrS → Nat
  | .nil => 0
  | .cons _ t => t.len + 1
def TrL.len : TrL → Nat
  | .nil => 0
  | .cons _ t => t.len + 1
def TrL.snoc : TrL → TrS → TrL
  | .nil, s => .cons s .nil
  | .cons u t, s => .cons u (t.snoc s)
theorem TrL.snoc_len : ∀ (l : TrL) (s : TrS), (l.snoc s).len = l.len + 1
  | .nil, _ => rfl
  | .cons u t, s => by rw [TrL.snoc, TrL.len, TrL.len, TrL.snoc_len t s]
def okV : Value → Prop
  | .string s => s.size ≤ 9223372036854775807
  | _ => True
mutual
/-- This cell is the tree; all that it reaches lies in blocks of which P speaks. -/
def TP (w : World) (P : Nat → Prop) : Tr → Value → Prop
  | .one v, c => c = v ∧ okV v
  | .row l, c => ∃ A k, c = .slice A l.len k ∧ l.len ≤ 9223372036854775807 ∧ RowT w P l A
def TS (w : World) (P : Nat → Prop) : TrS → List Value → Prop
  | .nil, cs => cs = []
  | .cons x t, cs => ∃ c ys, cs = c :: ys ∧ TP w P x c ∧ TS w P t ys
def RowT (w : World) (P : Nat → Prop) : TrL → Option Addr → Prop
  | .nil, _ => True
  | .cons s t, A => ∃ b o cs, A = some ⟨b, o, none⟩ ∧ P b ∧ (∀ j u, cs[j]? = some u → w.cell? ⟨b, o + j, none⟩ = some u) ∧ TS w P s cs ∧ RowT w P t (some ⟨b, o + s.len, none⟩)
end
mutual
theorem TP.keep {w w' : World} {P P' : Nat → Prop} (hP : ∀ b, P b → P' b ∧ w'.heap[b]? = w.heap[b]?) : ∀ (x : Tr) (c : Value), TP w P x c → TP w' P' x c
  | .one v, c, h => by unfold TP at h ⊢; exact h
  | .row l, c, h => by
    unfold TP at h ⊢
    obtain ⟨A, k, h0, h1, h2⟩ := h
    exact ⟨A, k, h0, h1, RowT.keep hP l A h2⟩
theorem TS.keep {w w' : World} {P P' : Nat → Prop} (hP : ∀ b, P b → P' b ∧ w'.heap[b]? = w.heap[b]?) : ∀ (s : TrS) (cs : List Value), TS w P s cs → TS w' P' s cs
  | .nil, cs, h => by unfold TS at h ⊢; exact h
  | .cons x t, cs, h => by
    unfold TS at h ⊢
    obtain ⟨c, ys, e, h1, h2⟩ := h
    exact ⟨c, ys, e, TP.keep hP x c h1, TS.keep hP t ys h2⟩
theorem RowT.keep {w w' : World} {P P' : Nat → Prop} (hP : ∀ b, P b → P' b ∧ w'.heap[b]? = w.heap[b]?) : ∀ (l : TrL) (A : Option Addr), RowT w P l A → RowT w' P' l A
  | .nil, _, _ => by unfold RowT; trivial
  | .cons s t, A, h => by
    unfold RowT at h ⊢
    obtain ⟨b, o, cs, e, hb, hc, h1, h2⟩ := h
    exact ⟨b, o, cs, e, (hP b hb).1, fun j u hu => (World.cell?_of_block (a := ⟨b, o + j, none⟩) (hP b hb).2).trans (hc j u hu), TS.keep hP s cs h1, RowT.keep hP t _ h2⟩
end
theorem TS.len {w : World} {P : Nat → Prop} : ∀ {s : TrS} {cs : List Value}, TS w P s cs → cs.length = s.len
  | .nil, cs, h => by unfold TS at h; subst h; rfl
  | .cons x t, cs, h => by
    unfold TS at h
    obtain ⟨c, ys, rfl, _, h2⟩ := h
    rw [List.length_cons, TS.len h2, TrS.len]
/-- These cells are those of a row. -/
def TLV (w : World) (P : Nat → Prop) : TrL → List Value → Prop
  | .nil, xs => xs = []
  | .cons s t, xs => ∃ cs ys, xs = cs ++ ys ∧ TS w P s cs ∧ TLV w P t ys
theorem TLV.keep {w w' : World} {P P' : Nat → Prop} (hP : ∀ b, P b → P' b ∧ w'.heap[b]? = w.heap[b]?) : ∀ {l : TrL} {xs : List Value}, TLV w P l xs → TLV w' P' l xs
  | .nil, _, h => h
  | .cons s t, xs, h => by
    obtain ⟨cs, ys, e, h1, h2⟩ := h
    exact ⟨cs, ys, e, TS.keep hP s cs h1, TLV.keep hP h2⟩
theorem TLV.snoc {w : World} {P : Nat → Prop} {s : TrS} {cs : List Value} (hd : TS w P s cs) : ∀ {l : TrL} {xs : List Value}, TLV w P l xs → TLV w P (l.snoc s) (xs ++ cs)
  | .nil, xs, h => by
    have : xs = [] := h
    subst this
    exact ⟨cs, [], by simp, hd, rfl⟩
  | .cons u t, xs, h => by
    obtain ⟨c, ys, rfl, hv, ht⟩ := h
    exact ⟨c, ys ++ cs, by simp, hv, TLV.snoc hd ht⟩
theorem RowT.of_cells {w : World} {P : Nat → Prop} {g : Nat} (hg : P g) : ∀ {l : TrL} {xs : List Value} (i : Nat), TLV w P l xs → (∀ j u, xs[j]? = some u → w.cell? ⟨g, i + j, none⟩ = some u) → RowT w P l (some ⟨g, i, none⟩)
  | .nil, _, _, _, _ => by unfold RowT; trivial
  | .cons s t, xs, i, h, hc => by
    obtain ⟨cs, ys, rfl, hv, ht⟩ := h
    unfold RowT
    refine ⟨g, i, cs, rfl, hg, fun j u hj => hc j u ?_, hv, RowT.of_cells hg (i + s.len) ht (fun j u hj => ?_)⟩
    · rw [List.getElem?_append_left (List.getElem?_eq_some_iff.1 hj).1]; exact hj
    · have := hc (s.len + j) u (by rw [← hv.len, List.getElem?_append_right (by omega)]; simpa using hj)
      rwa [← Nat.add_assoc] at this
/-- A row that is owned. -/
theorem row_tl {w : World} {base n : Nat} {ty : TypeId} {V : Value} {P : Nat → Prop} {l : TrL} {xs : List Value} (h : w.ownsRow base ty n V l.len xs) (hv : TLV w P l xs) :
    ∃ A c, V = .slice A l.len c ∧ RowT w (fun b => P b ∨ V.ownBlock = some b) l A := by
  rcases h.2 with ⟨hV, hn⟩ | ⟨g, c, cur, hV, _⟩
  · refine ⟨none, 0, by rw [hV, hn], ?_⟩
    cases l with
    | nil => unfold RowT; trivial
    | cons v t => simp [TrL.len] at hn
  · have hg : V.ownBlock = some g := by rw [hV]; rfl
    refine ⟨some ⟨g, 0, none⟩, c, hV, RowT.of_cells (.inr hg) 0 (hv.keep (fun b hb => ⟨.inl hb, rfl⟩)) (fun j u hj => ?_)⟩
    have := h.cells hg j u hj
    rwa [add_at] at this
mutual
def encV : VT → TrS
  | .mk k n s l m => .cons (.one (.int .i64 k)) (.cons (.one (.int .i64 n)) (.cons (.one (.string s)) (.cons (.row (encL l)) (.cons (.row (encM m)) .nil))))
def encL : VL → TrL
  | .nil => .nil
  | .cons v t => .cons (encV v) (encL t)
def encM : VM → TrL
  | .nil => .nil
  | .cons nm v t => .cons (.cons (.one (.string nm)) (encV v)) (encM t)
end
theorem encV_len : ∀ v : VT, (encV v).len = 5
  | .mk _ _ _ _ _ => by rw [encV]; rfl
theorem encL_len : ∀ l : VL, (encL l).len = l.len
  | .nil => by rw [encL]; rfl
  | .cons v t => by rw [encL, TrL.len, VL.len, encL_len t]
theorem encM_len : ∀ l : VM, (encM l).len = l.len
  | .nil => by rw [encM]; rfl
  | .cons nm v t => by rw [encM, TrL.len, VM.len, encM_len t]
def shiftA : Option Addr → Nat → Option Addr
  | none, _ => none
  | some ⟨b, o, x⟩, n => some ⟨b, o + n, x⟩
theorem shiftA_zero (A : Option Addr) : shiftA A 0 = A := by
  cases A with
  | none => rfl
  | some a => rfl
mutual
theorem vp_ts {w : World} {P : Nat → Prop} : ∀ (v : VT) (c0 c1 c2 c3 c4 : Value), VP w P v c0 c1 c2 c3 c4 → TS w P (encV v) [c0, c1, c2, c3, c4]
  | .mk k n s l m, c0, c1, c2, c3, c4, h => by
    unfold VP at h
    obtain ⟨h0, h1, h2, hs, ⟨A, c, h3, g3, h4⟩, A', c', h5, g5, h6⟩ := h
    rw [encV]
    simp only [TS, TP]
    refine ⟨_, _, rfl, ⟨h0, trivial⟩, _, _, rfl, ⟨h1, trivial⟩, _, _, rfl, ⟨h2, hs⟩, _, _, rfl, ⟨A, c, by rw [encL_len]; exact h3, by rw [encL_len]; exact g3, ?_⟩, _, _, rfl, ⟨A', c', by rw [encM_len]; exact h5, by rw [encM_len]; exact g5, ?_⟩, rfl⟩
    · have := lp_tl l A 0 h4; rwa [Nat.zero_mul, shiftA_zero] at this
    · have := mp_tl m A' 0 h6; rwa [Nat.zero_mul, shiftA_zero] at this
theorem lp_tl {w : World} {P : Nat → Prop} : ∀ (l : VL) (A : Option Addr) (j : Nat), LP w P l A j → RowT w P (encL l) (shiftA A (j * 5))
  | .nil, _, _, _ => by rw [encL]; unfold RowT; trivial
  | .cons v t, A, j, h => by
    unfold LP at h
    obtain ⟨⟨b, o, c0, c1, c2, c3, c4, rfl, hb, hf, hv⟩, ht⟩ := h
    rw [encL]
    unfold RowT
    refine ⟨b, o + j * 5, [c0, c1, c2, c3, c4], rfl, hb, fun i u hi => ?_, vp_ts v _ _ _ _ _ hv, ?_⟩
    · match i, hi with
      | 0, hi => cases hi; exact hf.1
      | 1, hi => cases hi; exact hf.2.1
      | 2, hi => cases hi; exact hf.2.2.1
      | 3, hi => cases hi; exact hf.2.2.2.1
      | 4, hi => cases hi; exact hf.2.2.2.2
    · have := lp_tl t _ (j + 1) ht
      rw [encV_len]
      rwa [show o + j * 5 + 5 = o + (j + 1) * 5 by omega]
theorem mp_tl {w : World} {P : Nat → Prop} : ∀ (l : VM) (A : Option Addr) (j : Nat), MP w P l A j → RowT w P (encM l) (shiftA A (j * 6))
  | .nil, _, _, _ => by rw [encM]; unfold RowT; trivial
  | .cons nm v t, A, j, h => by
    unfold MP at h
    obtain ⟨⟨b, o, c0, c1, c2, c3, c4, rfl, hb, hn, hz, hf, hv⟩, ht⟩ := h
    rw [encM]
    unfold RowT
    refine ⟨b, o + j * 6, [.string nm, c0, c1, c2, c3, c4], rfl, hb, fun i u hi => ?_, ?_, ?_⟩
    · match i, hi with
      | 0, hi => cases hi; exact hn
      | 1, hi => cases hi; exact hf.1
      | 2, hi => cases hi; exact hf.2.1
      | 3, hi => cases hi; exact hf.2.2.1
      | 4, hi => cases hi; exact hf.2.2.2.1
      | 5, hi => cases hi; exact hf.2.2.2.2
    · rw [TS]
      exact ⟨_, _, rfl, by unfold TP; exact ⟨rfl, hz⟩, vp_ts v _ _ _ _ _ hv⟩
    · have := mp_tl t _ (j + 1) ht
      rw [TrS.len, encV_len]
      rwa [show o + j * 6 + (5 + 1) = o + (j + 1) * 6 by omega]
end
mutual
theorem ts_vp {w : World} {P : Nat → Prop} : ∀ (v : VT) (cs : List Value), TS w P (encV v) cs → ∃ c0 c1 c2 c3 c4, cs = [c0, c1, c2, c3, c4] ∧ VP w P v c0 c1 c2 c3 c4
  | .mk k n s l m, cs, h => by
    rw [encV] at h
    simp only [TS, TP] at h
    obtain ⟨c0, _, rfl, ⟨h0, _⟩, c1, _, rfl, ⟨h1, _⟩, c2, _, rfl, ⟨h2, hs⟩, c3, _, rfl, ⟨A, c, h3, g3, h4⟩, c4, _, rfl, ⟨A', c', h5, g5, h6⟩, rfl⟩ := h
    rw [encL_len] at h3 g3
    rw [encM_len] at h5 g5
    refine ⟨c0, c1, c2, c3, c4, rfl, ?_⟩
    unfold VP
    exact ⟨h0, h1, h2, hs, ⟨A, c, h3, g3, tl_lp l A 0 (by rw [Nat.zero_mul, shiftA_zero]; exact h4)⟩, A', c', h5, g5, tl_mp m A' 0 (by rw [Nat.zero_mul, shiftA_zero]; exact h6)⟩
theorem tl_lp {w : World} {P : Nat → Prop} : ∀ (l : VL) (A : Option Addr) (j : Nat), RowT w P (encL l) (shiftA A (j * 5)) → LP w P l A j
  | .nil, _, _, _ => by unfold LP; trivial
  | .cons v t, A, j, h => by
    rw [encL] at h
    unfold RowT at h
    obtain ⟨b, o, cs, e, hb, hc, h1, h2⟩ := h
    obtain ⟨c0, c1, c2, c3, c4, rfl, hv⟩ := ts_vp v cs h1
    cases A with
    | none => cases e
    | some a =>
      obtain ⟨b', o', x⟩ := a
      have e := Option.some.inj e
      injection e with e1 e2 e3
      subst e1 e2 e3
      unfold LP
      refine ⟨⟨b', o', c0, c1, c2, c3, c4, rfl, hb, ⟨hc 0 _ rfl, hc 1 _ rfl, hc 2 _ rfl, hc 3 _ rfl, hc 4 _ rfl⟩, hv⟩, tl_lp t _ (j + 1) ?_⟩
      rw [encV_len] at h2
      rwa [show shiftA (some (⟨b', o', none⟩ : Addr)) ((j + 1) * 5) = some ⟨b', o' + j * 5 + 5, none⟩ by rw [shiftA]; congr 2; omega]
theorem tl_mp {w : World} {P : Nat → Prop} : ∀ (l : VM) (A : Option Addr) (j : Nat), RowT w P (encM l) (shiftA A (j * 6)) → MP w P l A j
  | .nil, _, _, _ => by unfold MP; trivial
  | .cons nm v t, A, j, h => by
    rw [encM] at h
    unfold RowT at h
    obtain ⟨b, o, cs, e, hb, hc, h1, h2⟩ := h
    rw [TS] at h1
    obtain ⟨c, ys, rfl, h0, h1⟩ := h1
    unfold TP at h0
    obtain ⟨rfl, hz⟩ := h0
    obtain ⟨c0, c1, c2, c3, c4, rfl, hv⟩ := ts_vp v ys h1
    cases A with
    | none => cases e
    | some a =>
      obtain ⟨b', o', x⟩ := a
      have e := Option.some.inj e
      injection e with e1 e2 e3
      subst e1 e2 e3
      unfold MP
      refine ⟨⟨b', o', c0, c1, c2, c3, c4, rfl, hb, hc 0 _ rfl, hz, ⟨hc 1 _ rfl, hc 2 _ rfl, hc 3 _ rfl, hc 4 _ rfl, hc 5 _ rfl⟩, hv⟩, tl_mp t _ (j + 1) ?_⟩
      rw [TrS.len, encV_len] at h2
      rwa [show shiftA (some (⟨b', o', none⟩ : Addr)) ((j + 1) * 6) = some ⟨b', o' + j * 6 + (5 + 1), none⟩ by rw [shiftA]; congr 2; omega]
end
/-- Directives, selections, definitions as plain data. -/
abbrev DirT := ByteArray × VM
mutual
inductive SelT where
  | mk (kind : Int) (alias name : ByteArray) (args : VM) (dirs : List DirT) (on : ByteArray) (sels : SelL)
inductive SelL where
  | nil
  | cons (x : SelT) (t : SelL)
end
def SelL.len : SelL → Nat
  | .nil => 0
  | .cons _ t => t.len + 1
def SelL.snoc : SelL → SelT → SelL
  | .nil, x => .cons x .nil
  | .cons u t, x => .cons u (t.snoc x)
structure VarT where
  name : ByteArray
  tn : ByteArray
  tl : Int
  tm : Int
  has : Bool
  v : VT
structure OpT where
  kind : Int
  name : ByteArray
  vars : List VarT
  dirs : List DirT
  sels : SelL
structure FragT where
  name : ByteArray
  on : ByteArray
  dirs : List DirT
  sels : SelL
def rowOf {α : Type} (f : α → TrS) : List α → TrL
  | [] => .nil
  | a :: t => .cons (f a) (rowOf f t)
theorem rowOf_len {α : Type} (f : α → TrS) : ∀ l : List α, (rowOf f l).len = l.length
  | [] => rfl
  | a :: t => by rw [rowOf, TrL.len, rowOf_len f t]; rfl
theorem rowOf_snoc {α : Type} (f : α → TrS) : ∀ (l : List α) (a : α), rowOf f (l ++ [a]) = (rowOf f l).snoc (f a)
  | [], a => rfl
  | b :: t, a => by rw [List.cons_append, rowOf, rowOf, TrL.snoc, rowOf_snoc f t]
def encMem (nm : ByteArray) (v : VT) : TrS := .cons (.one (.string nm)) (encV v)
def encD (d : DirT) : TrS := .cons (.one (.string d.1)) (.cons (.row (encM d.2)) .nil)
mutual
def encS : SelT → TrS
  | .mk k a n g d o s => .cons (.one (.int .i64 k)) (.cons (.one (.string a)) (.cons (.one (.string n)) (.cons (.row (encM g)) (.cons (.row (rowOf encD d)) (.cons (.one (.string o)) (.cons (.row (encSL s)) .nil))))))
def encSL : SelL → TrL
  | .nil => .nil
  | .cons x t => .cons (encS x) (encSL t)
end
theorem encSL_len : ∀ l : SelL, (encSL l).len = l.len
  | .nil => by rw [encSL]; rfl
  | .cons x t => by rw [encSL, TrL.len, SelL.len, encSL_len t]
theorem encSL_snoc : ∀ (l : SelL) (x : SelT), encSL (l.snoc x) = (encSL l).snoc (encS x)
  | .nil, x => by rw [SelL.snoc, encSL, encSL, TrL.snoc, encSL]
  | .cons u t, x => by rw [SelL.snoc, encSL, encSL, TrL.snoc, encSL_snoc t]
def encVar (x : VarT) : TrS := .cons (.one (.string x.name)) (.cons (.one (.string x.tn)) (.cons (.one (.int .i64 (x.tl : Int))) (.cons (.one (.int .i64 (x.tm : Int))) (.cons (.one (.bool x.has)) (encV x.v)))))
def encOp (x : OpT) : TrS := .cons (.one (.int .i64 x.kind)) (.cons (.one (.string x.name)) (.cons (.row (rowOf encVar x.vars)) (.cons (.row (rowOf encD x.dirs)) (.cons (.row (encSL x.sels)) .nil))))
def encF (x : FragT) : TrS := .cons (.one (.string x.name)) (.cons (.one (.string x.on)) (.cons (.row (rowOf encD x.dirs)) (.cons (.row (encSL x.sels)) .nil)))
end Go.Proofs.YtcfdfgbobnocnaaGreatDoor
