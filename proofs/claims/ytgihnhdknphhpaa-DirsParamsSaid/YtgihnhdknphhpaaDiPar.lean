/- dirs.Param and the document's DirParam. (gen_dipar.py wrote it.) -/
import Derived.Test.YtgihnhdknphhpaaGrKb
namespace Go.Proofs.Ytgihnhdknphhpaa
open Go.RowKit

def nmSkip : ByteArray := ⟨#[115, 107, 105, 112]⟩
def nmIncl : ByteArray := ⟨#[105, 110, 99, 108, 117, 100, 101]⟩
def nmIf : ByteArray := ⟨#[105, 102]⟩
def nmBoole : ByteArray := ⟨#[66, 111, 111, 108, 101, 97, 110]⟩
/-- The name of a directive that there is. -/
def isDir (n : ByteArray) : Bool := n.toList == [115, 107, 105, 112] || n.toList == [105, 110, 99, 108, 117, 100, 101]
def dparV : Bool → Value
  | true => .agg #[.string nmIf, .string nmBoole, .int .i64 0, .int .i64 1, .bool false, .int .i64 0, .int .i64 0, .string ⟨#[]⟩, .slice none 0 0, .slice none 0 0]
  | false => .agg #[.string ⟨#[]⟩, .string ⟨#[]⟩, .int .i64 0, .int .i64 0, .bool false, .int .i64 0, .int .i64 0, .string ⟨#[]⟩, .slice none 0 0, .slice none 0 0]
def DparO (n : ByteArray) (w : World) (e : Ending) (w' : World) : Prop := e = .returned (.tuple #[dparV (isDir n), .bool (isDir n)]) ∧ Below w.heap.size w w'
theorem dp_box {w : World} {g : Nat} {c0 c1 c2 c3 c4 c5 c6 c7 c8 c9 : Value} {t : TypeId} (h : w.heap[g]? = some (.cells #[c0, c1, c2, c3, c4, c5, c6, c7, c8, c9] t (0, 0))) : (w.cell? ⟨g, 0, none⟩ = some c0 ∧ w.cell? ⟨g, 1, none⟩ = some c1 ∧ w.cell? ⟨g, 2, none⟩ = some c2 ∧ w.cell? ⟨g, 3, none⟩ = some c3 ∧ w.cell? ⟨g, 4, none⟩ = some c4 ∧ w.cell? ⟨g, 5, none⟩ = some c5 ∧ w.cell? ⟨g, 6, none⟩ = some c6 ∧ w.cell? ⟨g, 7, none⟩ = some c7 ∧ w.cell? ⟨g, 8, none⟩ = some c8 ∧ w.cell? ⟨g, 9, none⟩ = some c9) ∧ w.frozen? ⟨g, 0, none⟩ = false ∧ w.frozen? ⟨g, 1, none⟩ = false ∧ w.frozen? ⟨g, 2, none⟩ = false ∧ w.frozen? ⟨g, 3, none⟩ = false ∧ w.frozen? ⟨g, 4, none⟩ = false ∧ w.frozen? ⟨g, 5, none⟩ = false ∧ w.frozen? ⟨g, 6, none⟩ = false ∧ w.frozen? ⟨g, 7, none⟩ = false ∧ w.frozen? ⟨g, 8, none⟩ = false ∧ w.frozen? ⟨g, 9, none⟩ = false := by
  simp [World.cell?, World.frozen?, h]
theorem dp_set {w : World} {b : Nat} {t : TypeId} {x0 x1 x2 x3 x4 x5 x6 x7 x8 x9 c0 c1 c2 c3 c4 c5 c6 c7 c8 c9 : Value} (h : w.heap[b]? = some (.cells #[x0, x1, x2, x3, x4, x5, x6, x7, x8, x9] t (0, 0))) : ((((((((((w.setCell ⟨b, 0, none⟩ c0).setCell ⟨b, 1, none⟩ c1).setCell ⟨b, 2, none⟩ c2).setCell ⟨b, 3, none⟩ c3).setCell ⟨b, 4, none⟩ c4).setCell ⟨b, 5, none⟩ c5).setCell ⟨b, 6, none⟩ c6).setCell ⟨b, 7, none⟩ c7).setCell ⟨b, 8, none⟩ c8).setCell ⟨b, 9, none⟩ c9).heap[b]? = some (.cells #[c0, c1, c2, c3, c4, c5, c6, c7, c8, c9] t (0, 0)) := by
  simp [World.setCell, Array.getElem?_modify, h]
theorem dp_low {w0 w : World} {B b : Nat} {c0 c1 c2 c3 c4 c5 c6 c7 c8 c9 : Value} (h : Below B w0 w) (hb : B ≤ b) : Below B w0 ((((((((((w.setCell ⟨b, 0, none⟩ c0).setCell ⟨b, 1, none⟩ c1).setCell ⟨b, 2, none⟩ c2).setCell ⟨b, 3, none⟩ c3).setCell ⟨b, 4, none⟩ c4).setCell ⟨b, 5, none⟩ c5).setCell ⟨b, 6, none⟩ c6).setCell ⟨b, 7, none⟩ c7).setCell ⟨b, 8, none⟩ c8).setCell ⟨b, 9, none⟩ c9) :=
  ((((((((((h.setCell (p := ⟨b, 0, none⟩) hb _).setCell (p := ⟨b, 1, none⟩) hb _).setCell (p := ⟨b, 2, none⟩) hb _).setCell (p := ⟨b, 3, none⟩) hb _).setCell (p := ⟨b, 4, none⟩) hb _).setCell (p := ⟨b, 5, none⟩) hb _).setCell (p := ⟨b, 6, none⟩) hb _).setCell (p := ⟨b, 7, none⟩) hb _).setCell (p := ⟨b, 8, none⟩) hb _).setCell (p := ⟨b, 9, none⟩) hb _)
theorem dp_ret {R : Ending → World → Prop} {fn : Func} {a : Act} {W : World} {c0 c1 c2 c3 c4 c5 c6 c7 c8 c9 : Value} {p u b : Nat} (hf : fn.results = #[.cell p 30, .tmp u]) (h2 : a.tmps.getD p undef = .pointer (some ⟨b, 0, none⟩)) (hd : a.defers = [])
    (hc : W.heap[b]? = some (.cells #[c0, c1, c2, c3, c4, c5, c6, c7, c8, c9] 30 (0, 0))) (hR : R (.returned (.tuple #[.agg #[c0, c1, c2, c3, c4, c5, c6, c7, c8, c9], a.tmps.getD u undef])) W) : bodyPost Try.prog fn R .ret a W := by
  have hl : (loadVar 30 ⟨b, 0, none⟩).run Try.prog W = .ok (.agg #[c0, c1, c2, c3, c4, c5, c6, c7, c8, c9]) W :=
    run_loadVar_row W b 30 30 #[c0, c1, c2, c3, c4, c5, c6, c7, c8, c9] (0, 0) _ hc Try.underlying30 rfl (by kernel_rfl)
  refine bodyPost_ret ?_ hd hR
  have h2' : a.tmps[p]?.getD undef = .pointer (some ⟨b, 0, none⟩) := by rw [← h2]; simp
  simp [results, hf, h2', asAddr, hl]
set_option maxRecDepth 100000 in
set_option maxHeartbeats 8000000 in
theorem dpar_any (n : ByteArray) (w : World) : Calls Try.prog 5 #[.string n] w (DparO n w) := by
  have B0 := Lib.hid (gnew w (.cells #[.string ⟨#[]⟩, .string ⟨#[]⟩, .int .i64 0, .int .i64 0, .bool false, .int .i64 0, .int .i64 0, .string ⟨#[]⟩, .slice none 0 0, .slice none 0 0] 30))
  have X0 := Lib.hid (heap_alloc_new w (.cells #[.string ⟨#[]⟩, .string ⟨#[]⟩, .int .i64 0, .int .i64 0, .bool false, .int .i64 0, .int .i64 0, .string ⟨#[]⟩, .slice none 0 0, .slice none 0 0] 30))
  obtain ⟨b1, h1⟩ : ∃ b, (n.toList == [115, 107, 105, 112]) = b := ⟨_, rfl⟩
  obtain ⟨b2, h2⟩ : ∃ b, (n.toList == [105, 110, 99, 108, 117, 100, 101]) = b := ⟨_, rfl⟩
  have HI : Hid (isDir n = (b1 || b2)) := Lib.hid (by unfold isDir; rw [h1, h2])
  go_enter Try.func5, Try.ntmps5
  go_upto_region 1 with fail
  generalize w.alloc _ = w1 at B0 X0 ⊢
  obtain ⟨⟨y0, y1, y2, y3, y4, y5, y6, y7, y8, y9⟩, u0, u1, u2, u3, u4, u5, u6, u7, u8, u9⟩ := dp_box X0.out
  obtain ⟨g, hg⟩ : ∃ g, w.heap.size = g := ⟨_, rfl⟩
  have L0 : Hid (w.heap.size ≤ g) := Lib.hid (Nat.le_of_eq hg)
  rw [hg] at X0 y0 y1 y2 y3 y4 y5 y6 y7 y8 y9 u0 u1 u2 u3 u4 u5 u6 u7 u8 u9 ⊢
  clear hg
  cases b1 <;> cases b2
  all_goals
    go_wp2_with fail
    refine dp_ret rfl rfl rfl (dp_set X0.out) ?_
    unfold DparO
    rw [HI.out]
    exact ⟨rfl, dp_low B0.out L0.out⟩
set_option maxRecDepth 100000 in
set_option maxHeartbeats 8000000 in
theorem rpar_any (n : ByteArray) (w : World) : Calls Try.prog 6 #[.string n] w (DparO n w) := by
  have B0 := Lib.hid (gnew w (.cells #[.string ⟨#[]⟩, .string ⟨#[]⟩, .int .i64 0, .int .i64 0, .bool false, .int .i64 0, .int .i64 0, .string ⟨#[]⟩, .slice none 0 0, .slice none 0 0] 30))
  have X0 := Lib.hid (heap_alloc_new w (.cells #[.string ⟨#[]⟩, .string ⟨#[]⟩, .int .i64 0, .int .i64 0, .bool false, .int .i64 0, .int .i64 0, .string ⟨#[]⟩, .slice none 0 0, .slice none 0 0] 30))
  obtain ⟨b1, h1⟩ : ∃ b, (n.toList == [115, 107, 105, 112]) = b := ⟨_, rfl⟩
  obtain ⟨b2, h2⟩ : ∃ b, (n.toList == [105, 110, 99, 108, 117, 100, 101]) = b := ⟨_, rfl⟩
  have HI : Hid (isDir n = (b1 || b2)) := Lib.hid (by unfold isDir; rw [h1, h2])
  go_enter Try.func6, Try.ntmps6
  go_upto_region 1 with fail
  generalize w.alloc _ = w1 at B0 X0 ⊢
  obtain ⟨⟨y0, y1, y2, y3, y4, y5, y6, y7, y8, y9⟩, u0, u1, u2, u3, u4, u5, u6, u7, u8, u9⟩ := dp_box X0.out
  obtain ⟨g, hg⟩ : ∃ g, w.heap.size = g := ⟨_, rfl⟩
  have L0 : Hid (w.heap.size ≤ g) := Lib.hid (Nat.le_of_eq hg)
  rw [hg] at X0 y0 y1 y2 y3 y4 y5 y6 y7 y8 y9 u0 u1 u2 u3 u4 u5 u6 u7 u8 u9 ⊢
  clear hg
  cases b1 <;> cases b2
  all_goals
    go_wp2_with fail
    refine dp_ret rfl rfl rfl (dp_set X0.out) ?_
    unfold DparO
    rw [HI.out]
    exact ⟨rfl, dp_low B0.out L0.out⟩
end Go.Proofs.Ytgihnhdknphhpaa
