/- The laws' own example: the document's. -/
import Derived.Test.YtmamgaifpjgfkaaDfField
import Derived.Test.YtmamgaifpjgfkaaDfMeet
namespace Go.Proofs.Ytmamgaifpjgfkaa
open Go.RowKit

def awA : ByteArray := ⟨#[65]⟩
def awB : ByteArray := ⟨#[66]⟩
def awU : ByteArray := ⟨#[85]⟩
def awX : ByteArray := ⟨#[120]⟩
def awI : ByteArray := ⟨#[73, 110, 116]⟩
/-- The example's schema. -/
def awS : SchT := ⟨[⟨1, awA, [], [⟨awX, [], awI, 0, 0, []⟩], [], []⟩, ⟨1, awB, [], [], [], []⟩, ⟨3, awU, [], [], [awA, awB, awA], []⟩], awA, ⟨#[]⟩⟩
theorem aw_poss : possL awS awU = [awA, awB] := by decide +kernel
theorem aw_field : fieldD awS.defs awA awX = (⟨awX, [], awI, 0, 0, []⟩, true) := by
  have h1 : (awX.toList == [95, 95, 116, 121, 112, 101, 110, 97, 109, 101]) = false := by decide +kernel
  have h2 : isD awS.defs awA [1, 2] = true := by decide +kernel
  have h3 : (findD awS.defs awA).1 = ⟨1, awA, [], [⟨awX, [], awI, 0, 0, []⟩], [], []⟩ := by
    have : scalarB awA = false := by decide +kernel
    have e : (awA.toList == awA.toList) = true := by simp
    unfold findD
    rw [if_neg (by rw [this]; decide)]
    unfold awS findL
    rw [if_pos e]
  have e : (awX.toList == awX.toList) = true := by simp
  unfold fieldD
  rw [if_neg (by rw [h1]; simp), if_pos h2, h3, fieldL, if_pos e]
theorem aw_leafI : leafD awS.defs awI = true := by decide +kernel
theorem aw_leafA : leafD awS.defs awA = false := by decide +kernel
theorem aw_meets : meetsB awS awU awB = true := by decide +kernel
theorem aw_slim : SlimS awS := by
  refine ⟨by decide, fun d hd => ?_⟩
  simp only [awS, List.mem_cons, List.not_mem_nil, or_false] at hd
  rcases hd with rfl | rfl | rfl
  · refine ⟨by decide, by decide, by decide, by decide, fun f hf => ?_⟩
    simp only [List.mem_cons, List.not_mem_nil, or_false] at hf
    subst hf
    exact ⟨by decide, by decide, fun x hx => by simp at hx⟩
  · exact ⟨by decide, by decide, by decide, by decide, fun f hf => by simp at hf⟩
  · exact ⟨by decide, by decide, by decide, by decide, fun f hf => by simp at hf⟩
theorem nil_row {w : World} {P : Nat → Prop} {α : Type} {f : α → TrS} {A : Option Addr} : RowT w P (rowOf f []) A := by rw [rowOf]; unfold RowT; trivial
theorem aw_fields {W : World} {g B : Nat} (hB : g < B) (h0 : W.heap[g]? = some (.cells #[.string awX, .slice none 0 0, .string awI, .int .i64 0, .int .i64 0, .slice none 0 0] 46 (0, 0))) :
    RowT W (fun b => b < B) (rowOf encField [⟨awX, [], awI, 0, 0, []⟩]) (some ⟨g, 0, none⟩) := by
  refine row_build (k := 6) (P := fun b => b < B) hB len_fld fun q x hx => ?_
  match q, hx with
  | 0, hx =>
    cases hx
    refine ⟨_, fld_none awX awI 0 (by decide) (by decide), fun j u hu => ?_⟩
    match j, hu with
    | 0, hu | 1, hu | 2, hu | 3, hu | 4, hu | 5, hu => cases hu; exact (cells_get h0 _).trans rfl
    | n + 6, hu => simp at hu
  | n + 1, hx => simp at hx
theorem ok_sz {s : ByteArray} (h : s.size ≤ 9223372036854775807) : okV (.string s) := h
theorem aw_texts {W : World} {g B : Nat} (hB : g < B) (h0 : W.heap[g]? = some (.cells #[.string awA, .string awB, .string awA] 9 (0, 0))) :
    RowT W (fun b => b < B) (rowOf encStr [awA, awB, awA]) (some ⟨g, 0, none⟩) := by
  refine row_build (k := 1) (P := fun b => b < B) hB len_str fun q x hx => ?_
  match q, hx with
  | 0, hx | 1, hx | 2, hx =>
    cases hx
    refine ⟨_, by simp only [encStr, TS, TP]; exact ⟨_, _, rfl, ⟨rfl, ok_sz (by decide)⟩, rfl⟩, fun j u hu => ?_⟩
    match j, hu with
    | 0, hu => cases hu; exact (cells_get h0 _).trans rfl
    | n + 1, hu => simp at hu
  | n + 3, hx => simp at hx
theorem aw_defs {W : World} {g B : Nat} (hB : g + 3 ≤ B) (h0 : W.heap[g]? = some (.cells #[.string awX, .slice none 0 0, .string awI, .int .i64 0, .int .i64 0, .slice none 0 0] 46 (0, 0)))
    (h1 : W.heap[g + 1]? = some (.cells #[.string awA, .string awB, .string awA] 9 (0, 0)))
    (h2 : W.heap[g + 1 + 1]? = some (.cells #[.int .i64 1, .string awA, .slice none 0 0, .slice (some ⟨g, 0, none⟩) 1 1, .slice none 0 0, .slice none 0 0, .int .i64 1, .string awB, .slice none 0 0, .slice none 0 0, .slice none 0 0, .slice none 0 0, .int .i64 3, .string awU, .slice none 0 0, .slice none 0 0, .slice (some ⟨g + 1, 0, none⟩) 3 3, .slice none 0 0] 32 (0, 0))) :
    RowT W (fun b => b < B) (rowOf encDefn awS.defs) (some ⟨g + 1 + 1, 0, none⟩) := by
  refine row_build (k := 6) (P := fun b => b < B) (show g + 1 + 1 < B by omega) (fun _ => rfl) fun q x hx => ?_
  match q, hx with
  | 0, hx =>
    cases hx
    refine ⟨_, defn_ts (x := ⟨1, awA, [], [⟨awX, [], awI, 0, 0, []⟩], [], []⟩) (kf := 0) (kx := 1) (kp := 0) (km := 0) (by decide) (by decide) (by decide) (by decide) (by decide) (nil_row (A := none)) (aw_fields (g := g) (by omega) h0) (nil_row (A := none)) (nil_row (A := none)), fun j u hu => ?_⟩
    match j, hu with
    | 0, hu | 1, hu | 2, hu | 3, hu | 4, hu | 5, hu => cases hu; exact (cells_get h2 _).trans rfl
    | n + 6, hu => simp at hu
  | 1, hx =>
    cases hx
    refine ⟨_, defn_none 1 awB (by decide), fun j u hu => ?_⟩
    match j, hu with
    | 0, hu | 1, hu | 2, hu | 3, hu | 4, hu | 5, hu => cases hu; exact (cells_get h2 _).trans rfl
    | n + 6, hu => simp at hu
  | 2, hx =>
    cases hx
    refine ⟨_, defn_ts (x := ⟨3, awU, [], [], [awA, awB, awA], []⟩) (kf := 0) (kx := 0) (kp := 3) (km := 0) (by decide) (by decide) (by decide) (by decide) (by decide) (nil_row (A := none)) (nil_row (A := none)) (aw_texts (g := g + 1) (by omega) h1) (nil_row (A := none)), fun j u hu => ?_⟩
    match j, hu with
    | 0, hu | 1, hu | 2, hu | 3, hu | 4, hu | 5, hu => cases hu; exact (cells_get h2 _).trans rfl
    | n + 6, hu => simp at hu
  | n + 3, hx => simp [awS] at hx
theorem aw_ts {W : World} {g B : Nat} (hB : g + 3 ≤ B) (h0 : W.heap[g]? = some (.cells #[.string awX, .slice none 0 0, .string awI, .int .i64 0, .int .i64 0, .slice none 0 0] 46 (0, 0)))
    (h1 : W.heap[g + 1]? = some (.cells #[.string awA, .string awB, .string awA] 9 (0, 0)))
    (h2 : W.heap[g + 1 + 1]? = some (.cells #[.int .i64 1, .string awA, .slice none 0 0, .slice (some ⟨g, 0, none⟩) 1 1, .slice none 0 0, .slice none 0 0, .int .i64 1, .string awB, .slice none 0 0, .slice none 0 0, .slice none 0 0, .slice none 0 0, .int .i64 3, .string awU, .slice none 0 0, .slice none 0 0, .slice (some ⟨g + 1, 0, none⟩) 3 3, .slice none 0 0] 32 (0, 0))) :
    TS W (fun b => b < B) (encSch awS) [.slice (some ⟨g + 1 + 1, 0, none⟩) 3 3, .string awA, .string ⟨#[]⟩] := by
  simp only [encSch, TS, TP]
  exact ⟨_, _, rfl, ⟨_, 3, by rw [rowOf_len]; rfl, by rw [rowOf_len]; decide, aw_defs hB h0 h1 h2⟩, _, _, rfl, ⟨rfl, ok_sz (by decide)⟩, _, _, rfl, ⟨rfl, ok_sz (by decide)⟩, rfl⟩
theorem four_new (w : World) (o1 o2 o3 o4 : Obj) : ((((w.alloc o1).alloc o2).alloc o3).alloc o4).heap[w.heap.size]? = some o1 ∧ ((((w.alloc o1).alloc o2).alloc o3).alloc o4).heap[w.heap.size + 1]? = some o2 ∧ ((((w.alloc o1).alloc o2).alloc o3).alloc o4).heap[w.heap.size + 1 + 1]? = some o3 ∧ ((((w.alloc o1).alloc o2).alloc o3).alloc o4).heap[w.heap.size + 1 + 1 + 1]? = some o4 := by
  have e1 : (w.alloc o1).heap.size = w.heap.size + 1 := by simp
  have e2 : ((w.alloc o1).alloc o2).heap.size = w.heap.size + 1 + 1 := by simp
  have e3 : (((w.alloc o1).alloc o2).alloc o3).heap.size = w.heap.size + 1 + 1 + 1 := by simp
  have n1 := heap_alloc_new w o1
  have n2 := heap_alloc_new (w.alloc o1) o2
  have n3 := heap_alloc_new ((w.alloc o1).alloc o2) o3
  have n4 := heap_alloc_new (((w.alloc o1).alloc o2).alloc o3) o4
  rw [e1] at n2
  rw [e2] at n3
  rw [e3] at n4
  refine ⟨?_, ?_, ?_, n4⟩
  · exact (Below.heap_alloc _ _ _ (by omega)).trans ((Below.heap_alloc _ _ _ (by omega)).trans ((Below.heap_alloc _ _ _ (by omega)).trans n1))
  · exact (Below.heap_alloc _ _ _ (by omega)).trans ((Below.heap_alloc _ _ _ (by omega)).trans n2)
  · exact (Below.heap_alloc _ _ _ (by omega)).trans n3
theorem four_below (w : World) (o1 o2 o3 o4 : Obj) : Below w.heap.size w ((((w.alloc o1).alloc o2).alloc o3).alloc o4) := by
  have h1 := (Below.refl w.heap.size w).alloc (Nat.le_refl _) o1
  have h2 := h1.alloc h1.size o2
  have h3 := h2.alloc h2.size o3
  exact h3.alloc h3.size o4
/-- What the example's walk keeps: its schema, and the row that was found first. -/
structure AwK (w : World) (W : World) : Prop where
  low : Below w.heap.size w W
  size : w.heap.size + 4 ≤ W.heap.size
  box : W.heap[w.heap.size + 1 + 1 + 1]? = some (.cells #[.slice (some ⟨w.heap.size + 1 + 1, 0, none⟩) 3 3, .string awA, .string ⟨#[]⟩] 24 (0, 0))
  sch : TS W (fun b => b < w.heap.size + 3) (encSch awS) [.slice (some ⟨w.heap.size + 1 + 1, 0, none⟩) 3 3, .string awA, .string ⟨#[]⟩]
theorem AwK.next {w W W' : World} (h : AwK w W) (hb : Below W.heap.size W W') : AwK w W' := by
  have hs := h.size
  exact ⟨h.low.trans (hb.mono h.low.size), Nat.le_trans h.size hb.size, (hb.block _ (by omega)).trans h.box, TS.low (hb.mono (by omega)) h.sch⟩
set_option maxRecDepth 100000 in
set_option maxHeartbeats 8000000 in
theorem dawake_any (w : World) : Calls Try.prog 5 #[] w fun e w' => e = .returned (.bool true) ∧ Below w.heap.size w w' := by
  have X0 := Lib.hid (fun (o1 o2 o3 o4 : Obj) => four_new w o1 o2 o3 o4)
  have B0 := Lib.hid (fun (o1 o2 o3 o4 : Obj) => four_below w o1 o2 o3 o4)
  go_enter Try.func5, Try.ntmps5
  go_wp2_with fail
  have hK : AwK w _ := ⟨B0.out _ _ _ _, by simp, (X0.out _ _ _ _).2.2.2, aw_ts (g := w.heap.size) (B := w.heap.size + 3) (Nat.le_refl _) (X0.out _ _ _ _).1 (X0.out _ _ _ _).2.1 (X0.out _ _ _ _).2.2.1⟩
  refine (poss_any awS awU (.slice (some ⟨w.heap.size + 1 + 1, 0, none⟩) 3 3) (.string awA) (.string ⟨#[]⟩) _ (w.heap.size + 3) (Nat.le_trans (Nat.le_succ _) hK.size) (by decide) aw_slim hK.sch).mono ?_
  rintro e w1 h1
  rw [aw_poss] at h1
  obtain ⟨A1, k1, rfl, hs1, hb1⟩ := h1
  have K1 := Lib.hid (hK.next hb1)
  have S1 := Lib.hid hs1
  clear hK hs1 hb1 X0 B0
  obtain ⟨z0, z1, z2⟩ := three_cells K1.out.box
  go_wp2_with fail
  refine (field_any awS awA awX (.slice (some ⟨w.heap.size + 1 + 1, 0, none⟩) 3 3) (.string awA) (.string ⟨#[]⟩) _ (w.heap.size + 3) (Nat.le_trans (Nat.le_succ _) K1.out.size) (by decide) aw_slim K1.out.sch).mono ?_
  rintro e w2 h2
  rw [aw_field] at h2
  obtain ⟨c0, c1, c2, c3, c4, c5, rfl, hT, hb2⟩ := h2
  obtain ⟨Ap, kp, Ad, kd, e, _⟩ := fld_cells hT
  simp only [List.cons.injEq, and_true] at e
  obtain ⟨rfl, rfl, rfl, rfl, rfl, rfl⟩ := e
  have K2 := Lib.hid (K1.out.next hb2)
  have S2 := Lib.hid (S1.out.on hb2)
  clear z0 z1 z2 hT hb2 K1 S1
  obtain ⟨z0, z1, z2⟩ := three_cells K2.out.box
  have hs2 := K2.out.size
  go_upto_region 4 with fail
  clear z0 z1 z2
  have K3 := Lib.hid (K2.out.next (dbelow_new w2 (.cells #[.string awX, .slice Ap 0 kp, .string awI, .int .i64 0, .int .i64 0, .slice Ad 0 kd] 46)))
  have S3 := Lib.hid (S2.out.on (dbelow_new w2 (.cells #[.string awX, .slice Ap 0 kp, .string awI, .int .i64 0, .int .i64 0, .slice Ad 0 kd] 46)))
  have F3 := heap_alloc_new w2 (.cells #[.string awX, .slice Ap 0 kp, .string awI, .int .i64 0, .int .i64 0, .slice Ad 0 kd] 46)
  generalize w2.alloc (.cells #[.string awX, .slice Ap 0 kp, .string awI, .int .i64 0, .int .i64 0, .slice Ad 0 kd] 46) = w3 at K3 S3 F3 ⊢
  obtain ⟨⟨_, _, f2, _⟩, _⟩ := six_cells F3
  obtain ⟨z0, z1, z2⟩ := three_cells K3.out.box
  obtain ⟨b1, o1, rfl, hl1, s1⟩ := S3.out.2 1 awB rfl
  have e1 : (awB.toList == [66]) = true := by decide +kernel
  have e2 : (awI.toList == [73, 110, 116]) = true := by decide +kernel
  clear F3
  go_wp2_with fail
  refine (leaf_any awS awI (.slice (some ⟨w.heap.size + 1 + 1, 0, none⟩) 3 3) (.string awA) (.string ⟨#[]⟩) _ (w.heap.size + 3) (Nat.le_trans (Nat.le_succ _) K3.out.size) (by decide) K3.out.sch).mono ?_
  rw [aw_leafI]
  rintro e w4 ⟨rfl, hb4⟩
  have K4 := Lib.hid (K3.out.next hb4)
  clear z0 z1 z2 hb4 s1 f2
  obtain ⟨z0, z1, z2⟩ := three_cells K4.out.box
  go_wp2_with fail
  refine (leaf_any awS awA (.slice (some ⟨w.heap.size + 1 + 1, 0, none⟩) 3 3) (.string awA) (.string ⟨#[]⟩) _ (w.heap.size + 3) (Nat.le_trans (Nat.le_succ _) K4.out.size) (by decide) K4.out.sch).mono ?_
  rw [aw_leafA]
  rintro e w5 ⟨rfl, hb5⟩
  have K5 := Lib.hid (K4.out.next hb5)
  clear z0 z1 z2 hb5
  obtain ⟨z0, z1, z2⟩ := three_cells K5.out.box
  go_wp2_with fail
  refine (meets_any awS awU awB (.slice (some ⟨w.heap.size + 1 + 1, 0, none⟩) 3 3) (.string awA) (.string ⟨#[]⟩) _ (w.heap.size + 3) (Nat.le_trans (Nat.le_succ _) K5.out.size) (by decide) (by decide) aw_slim K5.out.sch).mono ?_
  rw [aw_meets]
  rintro e w6 ⟨rfl, hb6⟩
  have K6 := Lib.hid (K5.out.next hb6)
  clear z0 z1 z2 hb6
  go_wp2_with fail
  go_ret
  exact ⟨rfl, K6.out.low⟩
end Go.Proofs.Ytmamgaifpjgfkaa
