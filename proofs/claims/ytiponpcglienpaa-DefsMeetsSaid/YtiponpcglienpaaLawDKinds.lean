/- The walk of the law DefsKinds. -/
import Derived.Test.YtiponpcglienpaaDfLightS
import Derived.Test.YtiponpcglienpaaDfAwake
namespace Go.Proofs.Ytiponpcglienpaa.LDKinds
open Go.RowKit

/-- The schema's box, three cells. -/
def QS (wz : World) (g : Nat) (c0 c1 c2 : Value) (W : World) : Prop := W.cell? ⟨g, 0, none⟩ = some c0 ∧ W.cell? ⟨g, 1, none⟩ = some c1 ∧ W.cell? ⟨g, 2, none⟩ = some c2 ∧ Below wz.heap.size wz W
theorem QS.next {wz W W' : World} {g : Nat} {c0 c1 c2 : Value} (h : QS wz g c0 c1 c2 W) (hl : g < wz.heap.size) (hb : Below W.heap.size W W') : QS wz g c0 c1 c2 W' := by
  obtain ⟨h1, h2, h4, hK⟩ := h
  have q := Nat.lt_of_lt_of_le hl hK.size
  exact ⟨(hb.cell (p := ⟨g, _, none⟩) q).trans h1, (hb.cell (p := ⟨g, _, none⟩) q).trans h2, (hb.cell (p := ⟨g, _, none⟩) q).trans h4, hK.trans (hb.mono hK.size)⟩
theorem QS.written {wz W : World} {g : Nat} {c0 c1 c2 : Value} (h : QS wz g c0 c1 c2 W) : W.cell? ⟨g, 0, none⟩ = some c0 ∧ W.cell? ⟨g, 1, none⟩ = some c1 ∧ W.cell? ⟨g, 2, none⟩ = some c2 ∧ QS wz g c0 c1 c2 W := ⟨h.1, h.2.1, h.2.2.1, h⟩
theorem QS.held {wz W : World} {g : Nat} {c0 c1 c2 : Value} {p1 p2 p3 : Prop} (h : p1 ∧ p2 ∧ p3 ∧ QS wz g c0 c1 c2 W) : Below wz.heap.size wz W := h.2.2.2.2.2.2
theorem QS.last {wz W : World} {g : Nat} {c0 c1 c2 : Value} {p1 p2 p3 : Prop} (h : p1 ∧ p2 ∧ p3 ∧ QS wz g c0 c1 c2 W) : QS wz g c0 c1 c2 W := h.2.2.2
theorem found_name : ∀ {l : List DefnT} {n : ByteArray}, (findL l n).2 = true → (findL l n).1.name = n
  | [], _, h => by simp [findL] at h
  | d :: t, n, h => by
    rw [findL] at h ⊢
    split
    · rename_i e
      have : d.name.toList = n.toList := by simpa using e
      rw [Lib.toList_data, Lib.toList_data] at this
      exact ByteArray.ext (Array.toList_inj.1 this)
    · rename_i e
      rw [if_neg e] at h
      exact found_name h
theorem found_none : ∀ {l : List DefnT} {n : ByteArray}, (findL l n).2 = false → findL l n = (zeroD, false)
  | [], _, _ => rfl
  | d :: t, n, h => by
    rw [findL] at h ⊢
    split
    · rename_i e
      rw [if_pos e] at h
      cases h
    · rename_i e
      rw [if_neg e] at h
      exact found_none h
theorem find_name {l : List DefnT} {n : ByteArray} (h : (findD l n).2 = true) : (findD l n).1.name = n := by
  unfold findD at h ⊢
  split
  · rfl
  · rename_i e
    rw [if_neg e] at h
    exact found_name h
theorem find_none {l : List DefnT} {n : ByteArray} (h : (findD l n).2 = false) : findD l n = (zeroD, false) := by
  unfold findD at h ⊢
  split
  · rename_i e
    rw [if_pos e] at h
    cases h
  · rename_i e
    rw [if_neg e] at h
    exact found_none h
theorem kinds_ok (k : Int) : (hasI [0, 4] k && hasI [1, 2, 3] k) = false ∧ hasI [0, 4, 5] k = (hasI [0, 4] k || k == 5) ∧ (hasI [1, 2, 3] k && hasI [0, 4, 5] k) = false := by
  unfold hasI
  simp only [List.any_cons, List.any_nil, Bool.or_false]
  refine ⟨?_, ?_, ?_⟩
  · rw [Bool.eq_iff_iff]; simp; omega
  · rw [Bool.eq_iff_iff]; simp; omega
  · rw [Bool.eq_iff_iff]; simp; omega
set_option maxRecDepth 100000 in
set_option maxHeartbeats 8000000 in
theorem walk (w : World) (S : SchT) (c0 c1 c2 : Value) (hS : TS w (fun b => b < w.heap.size) (encSch S) [c0, c1, c2]) (hz : SlimS S) (n : ByteArray) (hn : n.size ≤ 140737488355328) :
    Calls Try.prog 8 #[.agg #[c0, c1, c2], .string n] w fun e w' => e = .returned (.bool true) ∧ Below w.heap.size w w' := by
  have L := Lib.hid (fun (wx : World) (h : Below w.heap.size w wx) => light_any S c0 c1 c2 wx w.heap.size h.size (TS.low h hS))
  have FF := Lib.hid (fun (wx : World) (h : Below w.heap.size w wx) => Find_any S n c0 c1 c2 wx w.heap.size h.size (by omega) hz (TS.low h hS))
  have LF := Lib.hid (fun (wx : World) (h : Below w.heap.size w wx) => leaf_any S n c0 c1 c2 wx w.heap.size h.size (by omega) (TS.low h hS))
  have CO := Lib.hid (fun (wx : World) (h : Below w.heap.size w wx) => composite_any S n c0 c1 c2 wx w.heap.size h.size (by omega) (TS.low h hS))
  have EN := Lib.hid (fun (wx : World) (h : Below w.heap.size w wx) => entry_any S n c0 c1 c2 wx w.heap.size h.size (by omega) (TS.low h hS))
  obtain ⟨A, k, e, _⟩ := sch_cells hS
  injection e with e0 e
  injection e with e1 e
  injection e with e2 e
  subst e0 e1 e2
  clear e hS hz
  have B0 := Lib.hid (dbelow_new w (.cells #[.slice A S.defs.length k, .string S.query, .string S.mutation] 24))
  have X0 := Lib.hid (heap_alloc_new w (.cells #[.slice A S.defs.length k, .string S.query, .string S.mutation] 24))
  go_enter Try.func8, Try.ntmps8
  go_wp2_with fail
  refine (L.out _ B0.out).mono ?_
  rintro e w1 ⟨b, rfl, hb1⟩
  have B1 := Lib.hid (B0.out.trans (hb1.mono B0.out.size))
  have X1 := Lib.hid ((hb1.block w.heap.size (by simp)).trans X0.out)
  clear hb1 L X0
  obtain ⟨z0, z1, z2⟩ := three_cells X1.out
  cases b with
  | false =>
    go_wp2_with fail
    refine (dawake_any w1).mono ?_
    rintro e w2 ⟨rfl, hb2⟩
    have B2 := Lib.hid (B1.out.trans (hb2.mono B1.out.size))
    clear hb2
    go_wp2_with fail
    go_ret
    exact ⟨rfl, B2.out⟩
  | true =>
    by_cases hs : 2000 < n.size
    · have hs1 : decide (2000 < (n.size : Int)) = true := by simp; omega
      have hs2 : (2000 : Int) < (n.size : Int) := by omega
      go_wp2_with fail
      refine (dawake_any w1).mono ?_
      rintro e w2 ⟨rfl, hb2⟩
      have B2 := Lib.hid (B1.out.trans (hb2.mono B1.out.size))
      clear hb2
      go_wp2_with fail
      go_ret
      exact ⟨rfl, B2.out⟩
    · have hs1 : decide (2000 < (n.size : Int)) = false := by simp; omega
      have hs2 : ¬ (2000 : Int) < (n.size : Int) := by omega
      have HF : Hid (leafD S.defs n = ((findD S.defs n).2 && hasI [0, 4] (findD S.defs n).1.kind) ∧ compD S.defs n = ((findD S.defs n).2 && hasI [1, 2, 3] (findD S.defs n).1.kind) ∧ entryD S.defs n = ((findD S.defs n).2 && hasI [0, 4, 5] (findD S.defs n).1.kind)) := Lib.hid ⟨rfl, rfl, rfl⟩
      have HN := Lib.hid (fun h => find_name (l := S.defs) (n := n) h)
      have HM := Lib.hid (fun h => find_none (l := S.defs) (n := n) h)
      generalize leafD S.defs n = lf at LF HF
      generalize compD S.defs n = cp at CO HF
      generalize entryD S.defs n = en at EN HF
      generalize findD S.defs n = x at FF HF HN HM
      go_wp2_with fail
      refine (FF.out _ B1.out).mono ?_
      rintro e w2 ⟨d0, d1, d2, d3, d4, d5, rfl, hT, hb2⟩
      have B2 := Lib.hid (B1.out.trans (hb2.mono B1.out.size))
      have X2 := Lib.hid ((hb2.block w.heap.size (Array.getElem?_eq_some_iff.1 X1.out).1).trans X1.out)
      obtain ⟨Af, kf, Ax, kx, Ap, kp, Am, km, e, _⟩ := defn_cells hT
      simp only [List.cons.injEq, and_true] at e
      obtain ⟨rfl, rfl, rfl, rfl, rfl, rfl⟩ := e
      clear z0 z1 z2 hT hb2 FF X1
      go_upto_region 4 with fail
      have B3 := Lib.hid (B2.out.alloc B2.out.size (.cells #[.int .i64 x.1.kind, .string x.1.name, .slice Af x.1.faces.length kf, .slice Ax x.1.fields.length kx, .slice Ap x.1.parts.length kp, .slice Am x.1.params.length km] 32))
      have X3 := (Below.heap_alloc w2 (.cells #[.int .i64 x.1.kind, .string x.1.name, .slice Af x.1.faces.length kf, .slice Ax x.1.fields.length kx, .slice Ap x.1.parts.length kp, .slice Am x.1.params.length km] 32) w.heap.size (Array.getElem?_eq_some_iff.1 X2.out).1).trans X2.out
      have F3 := heap_alloc_new w2 (.cells #[.int .i64 x.1.kind, .string x.1.name, .slice Af x.1.faces.length kf, .slice Ax x.1.fields.length kx, .slice Ap x.1.parts.length kp, .slice Am x.1.params.length km] 32)
      generalize w2.alloc (.cells #[.int .i64 x.1.kind, .string x.1.name, .slice Af x.1.faces.length kf, .slice Ax x.1.fields.length kx, .slice Ap x.1.parts.length kp, .slice Am x.1.params.length km] 32) = w3 at B3 X3 F3 ⊢
      generalize w2.heap.size = gf at F3 ⊢
      obtain ⟨z0, z1, z2⟩ := three_cells X3
      have hlb : w.heap.size < w3.heap.size := (Array.getElem?_eq_some_iff.1 X3).1
      have hE : QS w3 w.heap.size (.slice A S.defs.length k) (.string S.query) (.string S.mutation) w3 := ⟨z0, z1, z2, Below.refl _ _⟩
      have HL := Lib.hid hlb
      have HF3 := Lib.hid F3
      clear X3 F3 hlb
      go_region_held3 (fun w' => w'.cell? ⟨w.heap.size, 0, none⟩ = some (.slice A S.defs.length k) ∧ w'.cell? ⟨w.heap.size, 1, none⟩ = some (.string S.query) ∧ w'.cell? ⟨w.heap.size, 2, none⟩ = some (.string S.mutation) ∧ QS w3 w.heap.size (.slice A S.defs.length k) (.string S.query) (.string S.mutation) w')
        (first
          | exact QS.written (hE.next HL.out (Below.drew (Below.refl _ _)))
          | exact QS.written ((hE.next HL.out (Below.drew (Below.refl _ _))).next HL.out (by assumption))
          | exact QS.written (hE.next HL.out (by assumption))
          | exact QS.written (QS.next (QS.last (by assumption)) HL.out (by assumption))
          | go_keep)
        ((first
          | (go_at_call 15; refine (LF.out _ (by first | exact B3.out.trans (Below.mono (Below.drew (Below.refl _ _)) B3.out.size) | exact B3.out.trans ((QS.held (by assumption)).mono B3.out.size))).mono ?_; rintro e w' ⟨rfl, hb⟩)
          | (go_at_call 17; refine (CO.out _ (by first | exact B3.out.trans (Below.mono (Below.drew (Below.refl _ _)) B3.out.size) | exact B3.out.trans ((QS.held (by assumption)).mono B3.out.size))).mono ?_; rintro e w' ⟨rfl, hb⟩)
          | (go_at_call 19; refine (EN.out _ (by first | exact B3.out.trans (Below.mono (Below.drew (Below.refl _ _)) B3.out.size) | exact B3.out.trans ((QS.held (by assumption)).mono B3.out.size))).mono ?_; rintro e w' ⟨rfl, hb⟩)))
      all_goals
        have HK := Lib.hid (QS.held (by assumption))
        rename_i w4
        have B4 := Lib.hid (B3.out.trans (HK.out.mono B3.out.size))
        have hgf : gf < w3.heap.size := (Array.getElem?_eq_some_iff.1 HF3.out).1
        have F4 := (HK.out.block gf hgf).trans HF3.out
        obtain ⟨⟨y0, y1, _⟩, _⟩ := six_cells F4
        clear HK hE z0 z1 z2 F4 HF3 B3 LF CO EN hgf
        obtain ⟨⟨kd, nm, fs, fl, pt, pm⟩, ok⟩ := x
        obtain ⟨k1, k2, k3⟩ := kinds_ok kd
        obtain ⟨f1, f2, f3⟩ := HF.out
        clear HF
        cases ok with
        | false =>
          have hx := congrArg (fun z => z.1.name) (HM.out rfl)
          obtain rfl : nm = ⟨#[]⟩ := hx
          simp only [Bool.false_and] at f1 f2 f3
          subst f1 f2 f3
          clear HN HM k1 k2 k3 y0
          go_wp2_with fail
          refine (dawake_any _).mono ?_
          rintro e w5 ⟨rfl, hb5⟩
          have B5 := Lib.hid (B4.out.trans (hb5.mono B4.out.size))
          clear hb5
          go_wp2_with fail
          go_ret
          exact ⟨rfl, B5.out⟩
        | true =>
          have hx := HN.out rfl
          obtain rfl : nm = n := hx
          simp only [Bool.true_and] at f1 f2 f3
          rw [← f1, ← f2] at k1
          rw [← f3, ← f1] at k2
          rw [← f2, ← f3] at k3
          have eN : (nm.toList == nm.toList) = true := by simp
          obtain ⟨k5, e5⟩ : ∃ k5, (kd == 5) = k5 := ⟨_, rfl⟩
          rw [e5] at k2
          clear f1 f2 f3 HN HM
          cases lf <;> cases cp <;> cases en <;> cases k5 <;> simp at k1 k2 k3
          all_goals
            go_wp2_with fail
            refine (dawake_any _).mono ?_
            rintro e w5 ⟨rfl, hb5⟩
            have B5 := Lib.hid (B4.out.trans (hb5.mono B4.out.size))
            clear hb5
            go_wp2_with fail
            go_ret
            exact ⟨rfl, B5.out⟩
end Go.Proofs.Ytiponpcglienpaa.LDKinds
