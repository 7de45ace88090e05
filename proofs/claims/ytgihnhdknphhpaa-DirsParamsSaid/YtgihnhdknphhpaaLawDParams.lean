/- The walk of the law DirsParams. (gen_dparams.py wrote it.) -/
import Derived.Test.YtgihnhdknphhpaaDiAwake
import Derived.Test.YtgihnhdknphhpaaSdSameP
namespace Go.Proofs.Ytgihnhdknphhpaa.LDParams
open Go.RowKit

def cellsP : Bool → List Value
  | true => [.string nmIf, .string nmBoole, .int .i64 0, .int .i64 1, .bool false, .int .i64 0, .int .i64 0, .string ⟨#[]⟩, .slice none 0 0, .slice none 0 0]
  | false => [.string ⟨#[]⟩, .string ⟨#[]⟩, .int .i64 0, .int .i64 0, .bool false, .int .i64 0, .int .i64 0, .string ⟨#[]⟩, .slice none 0 0, .slice none 0 0]
theorem parV (b : Bool) : dparV b = .agg (cellsP b).toArray := by cases b <;> rfl
def parT : Bool → VarT
  | true => ⟨nmIf, nmBoole, 0, 1, false, .mk 0 0 ⟨#[]⟩ .nil .nil⟩
  | false => ⟨⟨#[]⟩, ⟨#[]⟩, 0, 0, false, .mk 0 0 ⟨#[]⟩ .nil .nil⟩
theorem par_row {w : World} {P : Nat → Prop} {g : Nat} {b : Bool} (h : w.heap[g]? = some (.cells (cellsP b).toArray 30 (0, 0))) (hg : P g) : RowT w P (rowOf encVar [parT b]) (some ⟨g, 0, none⟩) := by
  rw [rowOf]
  unfold RowT
  refine ⟨g, 0, cellsP b, rfl, hg, dcells_at h, ?_, by rw [rowOf]; unfold RowT; trivial⟩
  cases b
  all_goals
    unfold parT cellsP encVar
    rw [encV]
    simp only [TS, TP]
    refine ⟨_, _, rfl, ⟨rfl, ?_⟩, _, _, rfl, ⟨rfl, ?_⟩, _, _, rfl, ⟨rfl, trivial⟩, _, _, rfl, ⟨rfl, trivial⟩, _, _, rfl, ⟨rfl, trivial⟩, _, _, rfl, ⟨rfl, trivial⟩, _, _, rfl, ⟨rfl, trivial⟩, _, _, rfl, ⟨rfl, ?_⟩, _, _, rfl, ⟨none, 0, by rw [encL]; rfl, by rw [encL]; exact Nat.zero_le _, by rw [encL]; unfold RowT; trivial⟩, _, _, rfl, ⟨none, 0, by rw [encM]; rfl, by rw [encM]; exact Nat.zero_le _, by rw [encM]; unfold RowT; trivial⟩, rfl⟩
    all_goals (show ByteArray.size _ ≤ _; decide)
set_option maxRecDepth 100000 in
set_option maxHeartbeats 8000000 in
theorem walk (w : World) (n : ByteArray) (hn : n.size ≤ 140737488355328) :
    Calls Try.prog 3 #[.string n] w fun e w' => e = .returned (.bool true) ∧ Below w.heap.size w w' := by
  have AW := Lib.hid (fun (wx : World) => diawake_any wx)
  have DP := Lib.hid (fun (wx : World) => dpar_any n wx)
  have RP := Lib.hid (fun (wx : World) => rpar_any n wx)
  unfold DparO at DP RP
  go_enter Try.func3, Try.ntmps3
  by_cases hlen : n.size ≤ 2000
  · have hl1 : ¬ ((2000 : Int) < (n.size : Int)) := by omega
    have hl2 : (n.size : Int) ≤ 2000 := by omega
    obtain ⟨b, hb⟩ : ∃ b, isDir n = b := ⟨_, rfl⟩
    rw [hb] at DP RP
    clear hb
    go_wp2_with fail
    refine (DP.out _).mono ?_
    rintro e w1 ⟨rfl, hb1⟩
    have B1 := Lib.hid hb1
    clear hb1 DP
    cases b
    · unfold dparV
      go_wp2_with fail
      have B2 := Lib.hid (B1.out.trans ((gnew w1 (.cells #[.string ⟨#[]⟩, .string ⟨#[]⟩, .int .i64 0, .int .i64 0, .bool false, .int .i64 0, .int .i64 0, .string ⟨#[]⟩, .slice none 0 0, .slice none 0 0] 30)).mono B1.out.size))
      have I2 := Lib.hid (heap_alloc_new w1 (.cells #[.string ⟨#[]⟩, .string ⟨#[]⟩, .int .i64 0, .int .i64 0, .bool false, .int .i64 0, .int .i64 0, .string ⟨#[]⟩, .slice none 0 0, .slice none 0 0] 30))
      generalize w1.alloc (.cells #[.string ⟨#[]⟩, .string ⟨#[]⟩, .int .i64 0, .int .i64 0, .bool false, .int .i64 0, .int .i64 0, .string ⟨#[]⟩, .slice none 0 0, .slice none 0 0] 30) = w2 at B2 I2 ⊢
      have G2 := (Array.getElem?_eq_some_iff.1 I2.out).1
      generalize w1.heap.size = g1 at I2 G2 ⊢
      clear B1
      refine (RP.out _).mono ?_
      rintro e w3 ⟨rfl, hb3⟩
      unfold dparV
      have B3 := Lib.hid (B2.out.trans (hb3.mono B2.out.size))
      have I3 := Lib.hid ((hb3.block _ G2).trans I2.out)
      clear hb3 RP B2 I2 G2
      go_upto_region 5 with fail
      have b4 := gnew w3 (.cells #[.string ⟨#[]⟩, .string ⟨#[]⟩, .int .i64 0, .int .i64 0, .bool false, .int .i64 0, .int .i64 0, .string ⟨#[]⟩, .slice none 0 0, .slice none 0 0] 30)
      have B4 := Lib.hid (B3.out.trans (b4.mono B3.out.size))
      have J4 := Lib.hid (heap_alloc_new w3 (.cells #[.string ⟨#[]⟩, .string ⟨#[]⟩, .int .i64 0, .int .i64 0, .bool false, .int .i64 0, .int .i64 0, .string ⟨#[]⟩, .slice none 0 0, .slice none 0 0] 30))
      have I4 := Lib.hid ((b4.block _ (Array.getElem?_eq_some_iff.1 I3.out).1).trans I3.out)
      generalize w3.alloc (.cells #[.string ⟨#[]⟩, .string ⟨#[]⟩, .int .i64 0, .int .i64 0, .bool false, .int .i64 0, .int .i64 0, .string ⟨#[]⟩, .slice none 0 0, .slice none 0 0] 30) = w4 at B4 J4 I4 ⊢
      generalize w3.heap.size = g2 at J4 ⊢
      have G4 : g2 < w4.heap.size := (Array.getElem?_eq_some_iff.1 J4.out).1
      have G5 : g1 < w4.heap.size := (Array.getElem?_eq_some_iff.1 I4.out).1
      clear B3 I3 b4
      obtain ⟨⟨y0, y1, y2, y3, y4, y5, y6, y7, y8, y9⟩, _⟩ := dp_box I4.out
      obtain ⟨⟨z0, z1, z2, z3, z4, z5, z6, z7, z8, z9⟩, _⟩ := dp_box J4.out
      go_wp2_with fail
      have HB : ∀ (a b : Obj) (W : World), W = (w4.alloc a).alloc b → Below w4.heap.size w4 W ∧ W.heap.size = w4.heap.size + 2 ∧ W.heap[w4.heap.size]? = some a ∧ W.heap[w4.heap.size + 1]? = some b := by
        rintro a b W rfl
        have h := heap_alloc_new (w4.alloc a) b
        rw [World.size_alloc] at h
        exact ⟨(gnew w4 a).alloc (by simp) _, by simp, by rw [Below.heap_alloc _ _ _ (by simp)]; exact heap_alloc_new _ _, h⟩
      obtain ⟨k1, k2, k3, k4⟩ := HB (.cells #[.string ⟨#[]⟩, .string ⟨#[]⟩, .int .i64 0, .int .i64 0, .bool false, .int .i64 0, .int .i64 0, .string ⟨#[]⟩, .slice none 0 0, .slice none 0 0] 30) (.cells #[.string ⟨#[]⟩, .string ⟨#[]⟩, .int .i64 0, .int .i64 0, .bool false, .int .i64 0, .int .i64 0, .string ⟨#[]⟩, .slice none 0 0, .slice none 0 0] 30) _ rfl
      generalize (w4.alloc _).alloc _ = w5 at k1 k2 k3 k4 ⊢
      have B5 := Lib.hid (B4.out.trans (k1.mono B4.out.size))
      have SP := Lib.hid (spars_yes [parT false] (some ⟨w4.heap.size, 0, none⟩) (some ⟨w4.heap.size + 1, 0, none⟩) 1 1 w5 w5.heap.size (Nat.le_refl _) (by decide) (par_row (b := false) k3 (by omega)) (par_row (b := false) k4 (by omega)))
      clear k1 k2 k3 k4 HB y0 y1 y2 y3 y4 y5 y6 y7 y8 y9 z0 z1 z2 z3 z4 z5 z6 z7 z8 z9 B4 I4 J4
      refine SP.out.mono ?_
      rintro e w6 ⟨rfl, hb6⟩
      have B6 := Lib.hid (B5.out.trans (hb6.mono B5.out.size))
      clear hb6 B5 SP
      go_wp2_with fail
      refine (AW.out _).mono ?_
      rintro e w7 ⟨rfl, hb7⟩
      have B7 := Lib.hid (B6.out.trans (hb7.mono B6.out.size))
      clear hb7 B6 AW
      go_wp2_with fail
      go_ret
      exact ⟨rfl, B7.out⟩
    · unfold dparV nmIf nmBoole
      go_wp2_with fail
      have B2 := Lib.hid (B1.out.trans ((gnew w1 (.cells #[.string ⟨#[105, 102]⟩, .string ⟨#[66, 111, 111, 108, 101, 97, 110]⟩, .int .i64 0, .int .i64 1, .bool false, .int .i64 0, .int .i64 0, .string ⟨#[]⟩, .slice none 0 0, .slice none 0 0] 30)).mono B1.out.size))
      have I2 := Lib.hid (heap_alloc_new w1 (.cells #[.string ⟨#[105, 102]⟩, .string ⟨#[66, 111, 111, 108, 101, 97, 110]⟩, .int .i64 0, .int .i64 1, .bool false, .int .i64 0, .int .i64 0, .string ⟨#[]⟩, .slice none 0 0, .slice none 0 0] 30))
      generalize w1.alloc (.cells #[.string ⟨#[105, 102]⟩, .string ⟨#[66, 111, 111, 108, 101, 97, 110]⟩, .int .i64 0, .int .i64 1, .bool false, .int .i64 0, .int .i64 0, .string ⟨#[]⟩, .slice none 0 0, .slice none 0 0] 30) = w2 at B2 I2 ⊢
      have G2 := (Array.getElem?_eq_some_iff.1 I2.out).1
      generalize w1.heap.size = g1 at I2 G2 ⊢
      clear B1
      refine (RP.out _).mono ?_
      rintro e w3 ⟨rfl, hb3⟩
      unfold dparV nmIf nmBoole
      have B3 := Lib.hid (B2.out.trans (hb3.mono B2.out.size))
      have I3 := Lib.hid ((hb3.block _ G2).trans I2.out)
      clear hb3 RP B2 I2 G2
      go_upto_region 5 with fail
      have b4 := gnew w3 (.cells #[.string ⟨#[105, 102]⟩, .string ⟨#[66, 111, 111, 108, 101, 97, 110]⟩, .int .i64 0, .int .i64 1, .bool false, .int .i64 0, .int .i64 0, .string ⟨#[]⟩, .slice none 0 0, .slice none 0 0] 30)
      have B4 := Lib.hid (B3.out.trans (b4.mono B3.out.size))
      have J4 := Lib.hid (heap_alloc_new w3 (.cells #[.string ⟨#[105, 102]⟩, .string ⟨#[66, 111, 111, 108, 101, 97, 110]⟩, .int .i64 0, .int .i64 1, .bool false, .int .i64 0, .int .i64 0, .string ⟨#[]⟩, .slice none 0 0, .slice none 0 0] 30))
      have I4 := Lib.hid ((b4.block _ (Array.getElem?_eq_some_iff.1 I3.out).1).trans I3.out)
      generalize w3.alloc (.cells #[.string ⟨#[105, 102]⟩, .string ⟨#[66, 111, 111, 108, 101, 97, 110]⟩, .int .i64 0, .int .i64 1, .bool false, .int .i64 0, .int .i64 0, .string ⟨#[]⟩, .slice none 0 0, .slice none 0 0] 30) = w4 at B4 J4 I4 ⊢
      generalize w3.heap.size = g2 at J4 ⊢
      have G4 : g2 < w4.heap.size := (Array.getElem?_eq_some_iff.1 J4.out).1
      have G5 : g1 < w4.heap.size := (Array.getElem?_eq_some_iff.1 I4.out).1
      clear B3 I3 b4
      obtain ⟨⟨y0, y1, y2, y3, y4, y5, y6, y7, y8, y9⟩, _⟩ := dp_box I4.out
      obtain ⟨⟨z0, z1, z2, z3, z4, z5, z6, z7, z8, z9⟩, _⟩ := dp_box J4.out
      go_wp2_with fail
      have HB : ∀ (a b : Obj) (W : World), W = (w4.alloc a).alloc b → Below w4.heap.size w4 W ∧ W.heap.size = w4.heap.size + 2 ∧ W.heap[w4.heap.size]? = some a ∧ W.heap[w4.heap.size + 1]? = some b := by
        rintro a b W rfl
        have h := heap_alloc_new (w4.alloc a) b
        rw [World.size_alloc] at h
        exact ⟨(gnew w4 a).alloc (by simp) _, by simp, by rw [Below.heap_alloc _ _ _ (by simp)]; exact heap_alloc_new _ _, h⟩
      obtain ⟨k1, k2, k3, k4⟩ := HB (.cells #[.string ⟨#[105, 102]⟩, .string ⟨#[66, 111, 111, 108, 101, 97, 110]⟩, .int .i64 0, .int .i64 1, .bool false, .int .i64 0, .int .i64 0, .string ⟨#[]⟩, .slice none 0 0, .slice none 0 0] 30) (.cells #[.string ⟨#[105, 102]⟩, .string ⟨#[66, 111, 111, 108, 101, 97, 110]⟩, .int .i64 0, .int .i64 1, .bool false, .int .i64 0, .int .i64 0, .string ⟨#[]⟩, .slice none 0 0, .slice none 0 0] 30) _ rfl
      generalize (w4.alloc _).alloc _ = w5 at k1 k2 k3 k4 ⊢
      have B5 := Lib.hid (B4.out.trans (k1.mono B4.out.size))
      have SP := Lib.hid (spars_yes [parT true] (some ⟨w4.heap.size, 0, none⟩) (some ⟨w4.heap.size + 1, 0, none⟩) 1 1 w5 w5.heap.size (Nat.le_refl _) (by decide) (par_row (b := true) k3 (by omega)) (par_row (b := true) k4 (by omega)))
      clear k1 k2 k3 k4 HB y0 y1 y2 y3 y4 y5 y6 y7 y8 y9 z0 z1 z2 z3 z4 z5 z6 z7 z8 z9 B4 I4 J4
      refine SP.out.mono ?_
      rintro e w6 ⟨rfl, hb6⟩
      have B6 := Lib.hid (B5.out.trans (hb6.mono B5.out.size))
      clear hb6 B5 SP
      go_wp2_with fail
      refine (AW.out _).mono ?_
      rintro e w7 ⟨rfl, hb7⟩
      have B7 := Lib.hid (B6.out.trans (hb7.mono B6.out.size))
      clear hb7 B6 AW
      go_wp2_with fail
      go_ret
      exact ⟨rfl, B7.out⟩
  · have hl1 : (2000 : Int) < (n.size : Int) := by omega
    have hl2 : ¬ (n.size : Int) ≤ 2000 := by omega
    go_wp2_with fail
    refine (AW.out _).mono ?_
    rintro e w1 ⟨rfl, hb1⟩
    have B1 := Lib.hid hb1
    clear hb1 AW
    go_wp2_with fail
    go_ret
    exact ⟨rfl, B1.out⟩
end Go.Proofs.Ytgihnhdknphhpaa.LDParams
