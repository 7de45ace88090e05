/- What the law ValueReads needs around its walk, beside what the laws of token need: two listed variables more, a value opened. -/
import Derived.Test.YtcdcfhplkimecaaGreatDoorTFrame
import Derived.Test.YtcdcfhplkimecaaGreatDoorVOpen
import Derived.Test.YtcdcfhplkimecaaGreatDoorVShelf
namespace Go.Proofs.YtcdcfhplkimecaaGreatDoor
open Go.ChangeShapes Go.WideShapes Go.ChangeAt Go.RowKit

theorem gRange : Tryz.prog.globalNamed "strconv.ErrRange" = some 6 := by kernel_rfl
theorem gRangeType : (Tryz.prog.globals[6]?).map (·.type) = some 49 := by kernel_rfl
theorem range_laid {W : World} (h : Lib.VarReads Tryz.prog W "strconv.ErrRange" Rows.laid_strconv_ErrRange) : ∃ te pe, W.cell? ⟨6, 0, none⟩ = some (.iface te pe) := by
  obtain ⟨g', t', cs, fuel, p, hg', ht', hvar, hd⟩ := h
  obtain rfl := Option.some.inj (gRange.symm.trans hg')
  obtain rfl := Option.some.inj (gRangeType.symm.trans ht')
  obtain ⟨_, u, v, e, _, _⟩ := iface_of_trod Tryz.underlying49 hd
  refine ⟨u, v, ?_⟩
  rw [World.var?_cell gRange hvar 0]
  have : cs[0]? = cs.toList[0]? := by simp
  rw [this, e]
  rfl
theorem gPowType : (Tryz.prog.globals[1]?).map (·.type) = some 116 := by kernel_rfl
theorem pow_laid {W : World} (h : Lib.VarReads Tryz.prog W "internal/strconv.uint64pow10" Rows.laid_internal_strconv_uint64pow10) : Lib.TabIs Tryz.prog W "internal/strconv.uint64pow10" .u64 Lib.pow10Tab := by
  obtain ⟨g', t', cs, fuel, p, hg', ht', hvar, hd⟩ := h
  obtain rfl := Option.some.inj (gPow.symm.trans hg')
  obtain rfl := Option.some.inj (gPowType.symm.trans ht')
  have hd' : DataW.trod (fun _ => ()) Tryz.prog W 0 (fun _ => true) false fuel 116 cs.toList = some (Lib.tabData .u64 Lib.pow10Tab, p) := hd
  have := Lib.cells_of_tab Tryz.underlying116 Tryz.underlying93 (by kernel_rfl) (by kernel_rfl) hd'
  unfold Lib.TabIs
  rw [hvar, ← this]
theorem laid5_of {W : World} (h : laidMetH Tryz.prog allLaid W) : Laid5 W := by
  rw [MakeChecks.laidMetH_plain _ _ _ (by kernel_rfl)] at h
  exact ⟨table (Lib.laidMet.reads h (by simp [allLaid])), range_laid (Lib.laidMet.reads h (by simp [allLaid])), pow_laid (Lib.laidMet.reads h (by simp [allLaid]))⟩
set_option maxRecDepth 100000 in
/-- The arguments, opened. -/
theorem open_val {H : Type} {enc : TypeId × Value → H} {W : World} {base : Nat} {v : Value} {d : DataW H} {ps : List MemPlace} (hval : Value.okWide Tryz.prog W .any base 25 v) (hd : DataW.Trod enc Tryz.prog W 0 (fun _ => true) true 25 v d ps) :
    ∃ x c0 c1 c2 c3 c4, v = .agg #[c0, c1, c2, c3, c4] ∧ VAt W W.heap.size x c0 c1 c2 c3 c4 ∧ RngV x ∧ sizeV x ≤ Rows.uptoBulk d ∧ ((∀ m ∈ d.weights Tryz.prog 25, m ≤ reachBytes) → SlimV x) := by
  obtain ⟨cs, rfl, hsz⟩ := okWide_struct Tryz.underlying25 hval
  obtain ⟨fuel, hf⟩ := hd
  obtain ⟨x, c0, c1, c2, c3, c4, hc, h1, h2, h3, h4⟩ := value_opened fuel _ _ hf
  refine ⟨x, c0, c1, c2, c3, c4, ?_, h1, h2, h3, h4⟩
  obtain ⟨L⟩ := cs
  rw [cellsV] at hsz
  match L, hsz with
  | [a, b, c, e, f], _ =>
    simp [Value.cells] at hc
    obtain ⟨rfl, rfl, rfl, rfl, rfl⟩ := hc
    rfl
set_option maxRecDepth 100000 in
theorem open_mems {H : Type} {enc : TypeId × Value → H} {W : World} {base : Nat} {v : Value} {d : DataW H} {ps : List MemPlace} (hval : Value.okWide Tryz.prog W .any base 23 v) (hd : DataW.Trod enc Tryz.prog W 0 (fun _ => true) true 23 v d ps) :
    ∃ (l : VM) (A : Option Addr) (c : Nat), v = .slice A l.len c ∧ l.len ≤ 9223372036854775807 ∧ MAt W W.heap.size l A 0 := by
  obtain ⟨A, n, c, rfl⟩ := okWide_slice Tryz.underlying23 hval
  obtain ⟨fuel, hf⟩ := hd
  obtain ⟨l, A', c', h1, h2, h3, _⟩ := mslice_opened (fun n _ cs x h => value_opened n cs x h) hf
  exact ⟨l, A', c', h1, h2, h3⟩
set_option maxRecDepth 100000 in
theorem open_vals {H : Type} {enc : TypeId × Value → H} {W : World} {base : Nat} {v : Value} {d : DataW H} {ps : List MemPlace} (hval : Value.okWide Tryz.prog W .any base 22 v) (hd : DataW.Trod enc Tryz.prog W 0 (fun _ => true) true 22 v d ps) :
    ∃ (l : VL) (A : Option Addr) (c : Nat), v = .slice A l.len c ∧ l.len ≤ 9223372036854775807 ∧ LAt W W.heap.size l A 0 ∧ RngL l ∧ sizeL l + 1 ≤ Rows.uptoBulk d := by
  obtain ⟨A, n, c, rfl⟩ := okWide_slice Tryz.underlying22 hval
  obtain ⟨fuel, hf⟩ := hd
  obtain ⟨l, A', c', h1, h2, h3, h4, h5, _⟩ := slice_opened (fun n _ cs x h => value_opened n cs x h) hf
  exact ⟨l, A', c', h1, h2, h3, h4, h5⟩
/-- A part's bulk is at most the whole's. -/
theorem bulk_part {H : Type} {d : DataW H} : ∀ {l : List (DataW H)}, d ∈ l → Rows.uptoBulk d ≤ Rows.uptoBulkAll l
  | [], h => by simp at h
  | x :: r, h => by
    rw [Rows.uptoBulkAll]
    rcases List.mem_cons.1 h with rfl | h
    · omega
    · have := bulk_part h; omega

end Go.Proofs.YtcdcfhplkimecaaGreatDoor
