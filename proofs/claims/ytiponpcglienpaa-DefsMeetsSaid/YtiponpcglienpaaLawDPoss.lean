/- The walk of the law DefsPossible. -/
import Derived.Test.YtiponpcglienpaaLawDKinds
namespace Go.Proofs.Ytiponpcglienpaa.LDPoss
open Go.RowKit LDKinds

theorem adds_nodup : ∀ (l out : List ByteArray), out.Pairwise (· ≠ ·) → (l.foldl addN out).Pairwise (· ≠ ·)
  | [], _, h => h
  | s :: t, out, h => by
    rw [List.foldl_cons]
    refine adds_nodup t _ ?_
    unfold addN
    split
    · exact h
    · rename_i e
      rw [List.pairwise_append]
      refine ⟨h, List.pairwise_singleton _ _, fun a ha b hb => ?_⟩
      have : b = s := by simpa using hb
      subst this
      rintro rfl
      exact e (hasN_iff.2 ha)
theorem once_nodup (l : List ByteArray) : (onceL l).Pairwise (· ≠ ·) := adds_nodup l [] List.Pairwise.nil
theorem poss_nodup (S : SchT) (n : ByteArray) : (possL S n).Pairwise (· ≠ ·) := by
  unfold possL
  split
  · split
    · exact List.pairwise_singleton _ _
    · split
      · exact once_nodup _
      · split
        · exact (once_nodup _).filter _
        · exact List.Pairwise.nil
  · exact List.Pairwise.nil
theorem poss_ne {S : SchT} {n x y : ByteArray} {i k : Nat} (hk : k < i) (hx : (possL S n)[i]? = some x) (hy : (possL S n)[k]? = some y) : x ≠ y := by
  have hi := (List.getElem?_eq_some_iff.1 hx).1
  have h := List.pairwise_iff_getElem.1 (poss_nodup S n) k i (by omega) hi hk
  rw [(List.getElem?_eq_some_iff.1 hx).2, (List.getElem?_eq_some_iff.1 hy).2] at h
  exact fun e => h e.symm
theorem poss_comp {S : SchT} {n : ByteArray} (h : 0 < (possL S n).length) : compD S.defs n = true := by
  unfold compD isD
  unfold possL at h
  split at h
  · rename_i e
    rw [e, Bool.true_and]
    unfold hasI
    split at h
    · rename_i e1; simp at e1; simp [e1]
    · split at h
      · rename_i e1; simp at e1; simp [e1]
      · split at h
        · rename_i e1; simp at e1; simp [e1]
        · simp at h
  · simp at h
theorem poss_one {S : SchT} {x : ByteArray} (h : objB S x = true) : possL S x = [x] := by
  unfold objB isD at h
  rw [Bool.and_eq_true] at h
  unfold possL
  rw [if_pos h.1, if_pos]
  have := h.2
  unfold hasI at this
  simp at this
  simp [this]
theorem poss_obj {S : SchT} {n x : ByteArray} (hk : ¬ ((findD S.defs n).2 = true ∧ ((findD S.defs n).1.kind == 2) = true)) (hx : x ∈ possL S n) : possL S x = [x] := by
  have hx0 := hx
  unfold possL at hx
  split at hx
  · rename_i e
    split at hx
    · rename_i e1
      have : x = n := by simpa using hx
      subst this
      unfold possL
      rw [if_pos e, if_pos e1]
    · split at hx
      · rename_i e2; exact absurd ⟨e, e2⟩ hk
      · split at hx
        · exact poss_one (List.mem_filter.1 hx).2
        · simp at hx
  · simp at hx
theorem poss_meets {S : SchT} {n x : ByteArray} (h1 : possL S x = [x]) (hx : x ∈ possL S n) : meetsB S n x = true := by
  unfold meetsB anyN
  rw [h1, List.any_eq_true]
  exact ⟨x, hx, hasN_iff.2 (List.mem_singleton.2 rfl)⟩
/-- The schema's box and one cell more. -/
def QX (wz : World) (g : Nat) (c0 c1 c2 : Value) (b o : Nat) (v : Value) (W : World) : Prop := W.cell? ⟨g, 0, none⟩ = some c0 ∧ W.cell? ⟨g, 1, none⟩ = some c1 ∧ W.cell? ⟨g, 2, none⟩ = some c2 ∧ W.cell? ⟨b, o, none⟩ = some v ∧ Below wz.heap.size wz W
theorem QX.next {wz W W' : World} {g b o : Nat} {c0 c1 c2 v : Value} (h : QX wz g c0 c1 c2 b o v W) (hl : g < wz.heap.size) (hl2 : b < wz.heap.size) (hb : Below W.heap.size W W') : QX wz g c0 c1 c2 b o v W' := by
  obtain ⟨h1, h2, h4, h5, hK⟩ := h
  have q := Nat.lt_of_lt_of_le hl hK.size
  have q2 := Nat.lt_of_lt_of_le hl2 hK.size
  exact ⟨(hb.cell (p := ⟨g, _, none⟩) q).trans h1, (hb.cell (p := ⟨g, _, none⟩) q).trans h2, (hb.cell (p := ⟨g, _, none⟩) q).trans h4, (hb.cell (p := ⟨b, _, none⟩) q2).trans h5, hK.trans (hb.mono hK.size)⟩
theorem QX.written {wz W : World} {g b o : Nat} {c0 c1 c2 v : Value} (h : QX wz g c0 c1 c2 b o v W) : W.cell? ⟨g, 0, none⟩ = some c0 ∧ W.cell? ⟨g, 1, none⟩ = some c1 ∧ W.cell? ⟨g, 2, none⟩ = some c2 ∧ W.cell? ⟨b, o, none⟩ = some v ∧ QX wz g c0 c1 c2 b o v W := ⟨h.1, h.2.1, h.2.2.1, h.2.2.2.1, h⟩
theorem QX.held {wz W : World} {g b o : Nat} {c0 c1 c2 v : Value} {p1 p2 p3 p4 : Prop} (h : p1 ∧ p2 ∧ p3 ∧ p4 ∧ QX wz g c0 c1 c2 b o v W) : Below wz.heap.size wz W := h.2.2.2.2.2.2.2.2
theorem QX.last {wz W : World} {g b o : Nat} {c0 c1 c2 v : Value} {p1 p2 p3 p4 : Prop} (h : p1 ∧ p2 ∧ p3 ∧ p4 ∧ QX wz g c0 c1 c2 b o v W) : QX wz g c0 c1 c2 b o v W := h.2.2.2.2
/-- And two. -/
def QY (wz : World) (g : Nat) (c0 c1 c2 : Value) (b o b' o' : Nat) (v : Value) (W : World) : Prop := W.cell? ⟨g, 0, none⟩ = some c0 ∧ W.cell? ⟨g, 1, none⟩ = some c1 ∧ W.cell? ⟨g, 2, none⟩ = some c2 ∧ W.cell? ⟨b, o, none⟩ = some v ∧ W.cell? ⟨b', o', none⟩ = some v ∧ Below wz.heap.size wz W
theorem QY.next {wz W W' : World} {g b o b' o' : Nat} {c0 c1 c2 v : Value} (h : QY wz g c0 c1 c2 b o b' o' v W) (hl : g < wz.heap.size) (hl2 : b < wz.heap.size) (hl3 : b' < wz.heap.size) (hb : Below W.heap.size W W') : QY wz g c0 c1 c2 b o b' o' v W' := by
  obtain ⟨h1, h2, h4, h5, h6, hK⟩ := h
  have q := Nat.lt_of_lt_of_le hl hK.size
  have q2 := Nat.lt_of_lt_of_le hl2 hK.size
  have q3 := Nat.lt_of_lt_of_le hl3 hK.size
  exact ⟨(hb.cell (p := ⟨g, _, none⟩) q).trans h1, (hb.cell (p := ⟨g, _, none⟩) q).trans h2, (hb.cell (p := ⟨g, _, none⟩) q).trans h4, (hb.cell (p := ⟨b, _, none⟩) q2).trans h5, (hb.cell (p := ⟨b', _, none⟩) q3).trans h6, hK.trans (hb.mono hK.size)⟩
theorem QY.written {wz W : World} {g b o b' o' : Nat} {c0 c1 c2 v : Value} (h : QY wz g c0 c1 c2 b o b' o' v W) : W.cell? ⟨g, 0, none⟩ = some c0 ∧ W.cell? ⟨g, 1, none⟩ = some c1 ∧ W.cell? ⟨g, 2, none⟩ = some c2 ∧ W.cell? ⟨b, o, none⟩ = some v ∧ W.cell? ⟨b', o', none⟩ = some v ∧ QY wz g c0 c1 c2 b o b' o' v W := ⟨h.1, h.2.1, h.2.2.1, h.2.2.2.1, h.2.2.2.2.1, h⟩
theorem QY.held {wz W : World} {g b o b' o' : Nat} {c0 c1 c2 v : Value} {p1 p2 p3 p4 p5 : Prop} (h : p1 ∧ p2 ∧ p3 ∧ p4 ∧ p5 ∧ QY wz g c0 c1 c2 b o b' o' v W) : Below wz.heap.size wz W := h.2.2.2.2.2.2.2.2.2.2
theorem QY.last {wz W : World} {g b o b' o' : Nat} {c0 c1 c2 v : Value} {p1 p2 p3 p4 p5 : Prop} (h : p1 ∧ p2 ∧ p3 ∧ p4 ∧ p5 ∧ QY wz g c0 c1 c2 b o b' o' v W) : QY wz g c0 c1 c2 b o b' o' v W := h.2.2.2.2.2
set_option maxRecDepth 100000 in
set_option maxHeartbeats 8000000 in
theorem walk (w : World) (S : SchT) (c0 c1 c2 : Value) (hS : TS w (fun b => b < w.heap.size) (encSch S) [c0, c1, c2]) (hz : SlimS S) (n : ByteArray) (hn : n.size ≤ 140737488355328) :
    Calls Try.prog 7 #[.agg #[c0, c1, c2], .string n] w fun e w' => e = .returned (.bool true) ∧ Below w.heap.size w w' := by
  have L := Lib.hid (fun (wx : World) (h : Below w.heap.size w wx) => light_any S c0 c1 c2 wx w.heap.size h.size (TS.low h hS))
  have FF := Lib.hid (fun (wx : World) (h : Below w.heap.size w wx) => Find_any S n c0 c1 c2 wx w.heap.size h.size (by omega) hz (TS.low h hS))
  have PP := Lib.hid (fun (m : ByteArray) (hm : m.size ≤ 9223372036854775807) (wx : World) (h : Below w.heap.size w wx) => poss_any S m c0 c1 c2 wx w.heap.size h.size hm hz (TS.low h hS))
  have CO := Lib.hid (fun (wx : World) (h : Below w.heap.size w wx) => composite_any S n c0 c1 c2 wx w.heap.size h.size (by omega) (TS.low h hS))
  have MM := Lib.hid (fun (m : ByteArray) (hm : m.size ≤ 9223372036854775807) (wx : World) (h : Below w.heap.size w wx) => meets_any S n m c0 c1 c2 wx w.heap.size h.size (by omega) hm hz (TS.low h hS))
  have hll := poss_len S n hz
  have HBD := Lib.hid (poss_bd (n := n) (by omega) hS)
  obtain ⟨A, k, e, _⟩ := sch_cells hS
  injection e with e0 e
  injection e with e1 e
  injection e with e2 e
  subst e0 e1 e2
  clear e hS hz
  have B0 := Lib.hid (dbelow_new w (.cells #[.slice A S.defs.length k, .string S.query, .string S.mutation] 24))
  have X0 := Lib.hid (heap_alloc_new w (.cells #[.slice A S.defs.length k, .string S.query, .string S.mutation] 24))
  go_enter Try.func7, Try.ntmps7
  go_wp2_with fail
  refine (L.out _ B0.out).mono ?_
  rintro e w1 ⟨b, rfl, hb1⟩
  have B1 := Lib.hid (B0.out.trans (hb1.mono B0.out.size))
  have X1 := Lib.hid ((hb1.block w.heap.size (by simp)).trans X0.out)
  clear hb1 L X0
  obtain ⟨z0, z1, z2⟩ := three_cells X1.out
  cases b with
  | false =>
    go_wp2_with fail
    refine (dawake_any w1).mono ?_
    rintro e w2 ⟨rfl, hb2⟩
    have B2 := Lib.hid (B1.out.trans (hb2.mono B1.out.size))
    clear hb2
    go_wp2_with fail
    go_ret
    exact ⟨rfl, B2.out⟩
  | true =>
    by_cases hs : 2000 < n.size
    · have hs1 : decide (2000 < (n.size : Int)) = true := by simp; omega
      have hs2 : (2000 : Int) < (n.size : Int) := by omega
      go_wp2_with fail
      refine (dawake_any w1).mono ?_
      rintro e w2 ⟨rfl, hb2⟩
      have B2 := Lib.hid (B1.out.trans (hb2.mono B1.out.size))
      clear hb2
      go_wp2_with fail
      go_ret
      exact ⟨rfl, B2.out⟩
    · have hs1 : decide (2000 < (n.size : Int)) = false := by simp; omega
      have hs2 : ¬ (2000 : Int) < (n.size : Int) := by omega
      have HC := Lib.hid (fun h => poss_comp (S := S) (n := n) h)
      have HNE := Lib.hid (fun (i k : Nat) (x y : ByteArray) (h : k < i) h1 h2 => poss_ne (S := S) (n := n) (x := x) (y := y) h h1 h2)
      have HOB := Lib.hid (fun (x : ByteArray) h h1 => poss_obj (S := S) (n := n) (x := x) h h1)
      have HME := Lib.hid (fun (x : ByteArray) h h1 => poss_meets (S := S) (n := n) (x := x) h h1)
      have P1 := Lib.hid (PP.out n (by omega))
      obtain ⟨l, el⟩ : ∃ l, possL S n = l := ⟨_, rfl⟩
      rw [el] at hll HBD HC HNE HOB HME P1
      clear el hs
      go_wp2_with fail
      refine (P1.out _ B1.out).mono ?_
      rintro e w2 ⟨A1, k1, rfl, hs2', hb2⟩
      have B2 := Lib.hid (B1.out.trans (hb2.mono B1.out.size))
      have X2 := Lib.hid ((hb2.block w.heap.size (Array.getElem?_eq_some_iff.1 X1.out).1).trans X1.out)
      have S2 := Lib.hid hs2'
      clear z0 z1 z2 hb2 hs2' P1 X1
      by_cases h0 : 0 < l.length
      · have h01 : (0 : Int) < (l.length : Int) := by omega
        have h02 : decide ((0 : Int) < (l.length : Int)) = true := decide_eq_true h01
        have HC1 := HC.out h0
        rw [HC1] at CO
        obtain ⟨z0, z1, z2⟩ := three_cells X2.out
        go_wp2_with fail
        refine (CO.out _ B2.out).mono ?_
        rintro e w3 ⟨rfl, hb3⟩
        have B3 := Lib.hid (B2.out.trans (hb3.mono B2.out.size))
        have X3 := Lib.hid ((hb3.block w.heap.size (Array.getElem?_eq_some_iff.1 X2.out).1).trans X2.out)
        have S3 := Lib.hid (S2.out.on hb3)
        clear z0 z1 z2 hb3 h01 h02 HC1 HC CO S2 X2 B2
        go_wp2_with fail
        go_loopg [6] l.length (fun g i wx => ∃ q : Nat, q + g = l.length ∧ i = .int .i64 q ∧ Below w3.heap.size w3 wx)
        case atStart => exact ⟨0, by omega, rfl, Below.refl _ _⟩
        case round =>
          obtain ⟨q, hq, rfl, hb⟩ := hrel
          have B4 := Lib.hid (B3.out.trans (hb.mono B3.out.size))
          have HB4 := Lib.hid hb
          clear hb
          cases gk with
          | zero =>
            obtain rfl : q = l.length := by omega
            go_wp2_with fail
            refine (dawake_any _).mono ?_
            rintro e w5 ⟨rfl, hb5⟩
            have B5 := Lib.hid (B4.out.trans (hb5.mono B4.out.size))
            clear hb5
            go_wp2_with fail
            go_ret
            exact ⟨rfl, B5.out⟩
          | succ g =>
            have hqn : q < l.length := by omega
            have hqn' : (q : Int) < (l.length : Int) := by omega
            obtain ⟨x, hx⟩ : ∃ x, l[q]? = some x := ⟨_, List.getElem?_eq_getElem hqn⟩
            obtain ⟨b1, o1, rfl, hlt1, cx⟩ := S3.out.2 q x hx
            have HX := Lib.hid hx
            have HLT := Lib.hid hlt1
            have HCX := Lib.hid cx
            clear hx cx
            go_wp2_with fail
            go_loopg [7] q (fun g2 i wx => ∃ j : Nat, j + g2 = q ∧ i = .int .i64 j ∧ Below w3.heap.size w3 wx)
            case atStart => exact ⟨0, by omega, rfl, HB4.out⟩
            case round =>
              obtain ⟨j, hj, rfl, hb⟩ := hrel
              have HB5 := Lib.hid hb
              clear hb
              cases gk with
              | succ g2 =>
                have hjq : j < q := by omega
                have hjq' : (j : Int) < (q : Int) := by omega
                have hjn' : (j : Int) < (l.length : Int) := by omega
                obtain ⟨y, hy⟩ : ∃ y, l[j]? = some y := ⟨_, List.getElem?_eq_getElem (by omega)⟩
                obtain ⟨b2, o2, e, _, cy⟩ := S3.out.2 j y hy
                simp only [Option.some.injEq, Addr.mk.injEq, and_true] at e
                obtain ⟨rfl, rfl⟩ := e
                have cx := (HB5.out.cell (p := ⟨b1, o1 + q, none⟩) HLT.out).trans HCX.out
                have cy := (HB5.out.cell (p := ⟨b1, o1 + j, none⟩) HLT.out).trans cy
                have hne := HNE.out q j x y hjq HX.out hy
                have e1 : (x.toList == y.toList) = false := by
                  rw [beq_eq_false_iff_ne]
                  intro h
                  rw [Lib.toList_data, Lib.toList_data] at h
                  exact hne (ByteArray.ext (Array.toList_inj.1 h))
                clear hy hne
                go_wp2_with fail
                go_quiet (fail)
                go_wp2_with fail
                go_roundg g2
                case measure => omega
                case rel => exact ⟨j + 1, by omega, by go_num, Blk.below_draws HB5.out _⟩
              | zero =>
                obtain rfl : j = q := by omega
                have B5 := Lib.hid (B3.out.trans (HB5.out.mono B3.out.size))
                have X5 := Lib.hid ((HB5.out.block w.heap.size (Array.getElem?_eq_some_iff.1 X3.out).1).trans X3.out)
                obtain ⟨z0, z1, z2⟩ := three_cells X5.out
                go_wp2_with fail
                refine (FF.out _ B5.out).mono ?_
                rintro e w6 ⟨d0, d1, d2, d3, d4, d5, rfl, hT, hb6⟩
                have HB6 := Lib.hid (HB5.out.trans (hb6.mono HB5.out.size))
                obtain ⟨Af, kf, Ax, kx, Ap, kp, Am, km, e, _⟩ := defn_cells hT
                simp only [List.cons.injEq, and_true] at e
                obtain ⟨rfl, rfl, rfl, rfl, rfl, rfl⟩ := e
                clear z0 z1 z2 hT hb6 X5
                have HP1 := Lib.hid (fun h => HOB.out x h (List.mem_of_getElem? HX.out))
                have HM1 := Lib.hid (fun h => HME.out x h (List.mem_of_getElem? HX.out))
                have hxs := HBD.out x (List.mem_of_getElem? HX.out)
                have PX := Lib.hid (PP.out x hxs)
                have MX := Lib.hid (MM.out x hxs)
                generalize findD S.defs n = f at HP1 ⊢
                go_upto_region 15 with fail
                have hbz := HB6.out.trans ((dbelow_new w6 (.cells #[.int .i64 f.1.kind, .string f.1.name, .slice Af f.1.faces.length kf, .slice Ax f.1.fields.length kx, .slice Ap f.1.parts.length kp, .slice Am f.1.params.length km] 32)).mono HB6.out.size)
                have F6 := heap_alloc_new w6 (.cells #[.int .i64 f.1.kind, .string f.1.name, .slice Af f.1.faces.length kf, .slice Ax f.1.fields.length kx, .slice Ap f.1.parts.length kp, .slice Am f.1.params.length km] 32)
                generalize w6.alloc (.cells #[.int .i64 f.1.kind, .string f.1.name, .slice Af f.1.faces.length kf, .slice Ax f.1.fields.length kx, .slice Ap f.1.parts.length kp, .slice Am f.1.params.length km] 32) = wz at hbz F6 ⊢
                generalize w6.heap.size = gf at F6 ⊢
                have BZ := Lib.hid (B3.out.trans (hbz.mono B3.out.size))
                have XZ := Lib.hid ((hbz.block w.heap.size (Array.getElem?_eq_some_iff.1 X3.out).1).trans X3.out)
                have CZ := (hbz.cell (p := ⟨b1, o1 + j, none⟩) HLT.out).trans HCX.out
                have HBZ := Lib.hid hbz
                have HF6 := Lib.hid F6
                obtain ⟨z0, z1, z2⟩ := three_cells XZ.out
                have hE : QX wz w.heap.size (.slice A S.defs.length k) (.string S.query) (.string S.mutation) b1 (o1 + j) (.string x) wz := ⟨z0, z1, z2, CZ, Below.refl _ _⟩
                have HL := Lib.hid (Array.getElem?_eq_some_iff.1 XZ.out).1
                have HL2 := Lib.hid (Nat.lt_of_lt_of_le HLT.out hbz.size)
                clear hbz F6 hxs
                by_cases hf : f.2 = true ∧ (f.1.kind == 2) = true
                · obtain ⟨hf1, hf2⟩ := hf
                  go_region_held3 (fun w' => w'.cell? ⟨w.heap.size, 0, none⟩ = some (.slice A S.defs.length k) ∧ w'.cell? ⟨w.heap.size, 1, none⟩ = some (.string S.query) ∧ w'.cell? ⟨w.heap.size, 2, none⟩ = some (.string S.mutation) ∧ w'.cell? ⟨b1, o1 + j, none⟩ = some (.string x) ∧ QX wz w.heap.size (.slice A S.defs.length k) (.string S.query) (.string S.mutation) b1 (o1 + j) (.string x) w')
                    (first
                      | exact QX.written (hE.next HL.out HL2.out (Below.drew (Below.refl _ _)))
                      | exact QX.written ((hE.next HL.out HL2.out (Below.drew (Below.refl _ _))).next HL.out HL2.out (by assumption))
                      | exact QX.written (hE.next HL.out HL2.out (by assumption))
                      | exact QX.written (QX.next (QX.last (by assumption)) HL.out HL2.out (by assumption))
                      | go_keep)
                    ((first | (go_at_call 22; refine (PX.out _ (by first | exact BZ.out.trans (Below.mono (Below.drew (Below.refl _ _)) BZ.out.size) | exact BZ.out.trans ((QX.held (by assumption)).mono BZ.out.size))).mono ?_; rintro e w' ⟨A3, k3, rfl, hs3, hb⟩)))
                  all_goals
                    have HK := Lib.hid (QX.held (by assumption))
                    have B7 := Lib.hid (BZ.out.trans (HK.out.mono BZ.out.size))
                    have HB7 := Lib.hid (HBZ.out.trans (HK.out.mono HBZ.out.size))
                    have F7 := (HK.out.block gf (Array.getElem?_eq_some_iff.1 HF6.out).1).trans HF6.out
                    obtain ⟨⟨y0, _⟩, _⟩ := six_cells F7
                    clear hE z0 z1 z2 CZ F7 HK
                    clear hs3
                    go_wp2_with fail
                    go_roundg g
                    case measure => omega
                    case rel => exact ⟨j + 1, by omega, by go_num, HB7.out⟩
                · have hP := HP1.out hf
                  have hM := HM1.out hP
                  rw [hP] at PX
                  rw [hM] at MX
                  have HNF := Lib.hid hf
                  clear hf hP hM
                  go_region_held3 (fun w' => w'.cell? ⟨w.heap.size, 0, none⟩ = some (.slice A S.defs.length k) ∧ w'.cell? ⟨w.heap.size, 1, none⟩ = some (.string S.query) ∧ w'.cell? ⟨w.heap.size, 2, none⟩ = some (.string S.mutation) ∧ w'.cell? ⟨b1, o1 + j, none⟩ = some (.string x) ∧ QX wz w.heap.size (.slice A S.defs.length k) (.string S.query) (.string S.mutation) b1 (o1 + j) (.string x) w')
                    (first
                      | exact QX.written (hE.next HL.out HL2.out (Below.drew (Below.refl _ _)))
                      | exact QX.written ((hE.next HL.out HL2.out (Below.drew (Below.refl _ _))).next HL.out HL2.out (by assumption))
                      | exact QX.written (hE.next HL.out HL2.out (by assumption))
                      | exact QX.written (QX.next (QX.last (by assumption)) HL.out HL2.out (by assumption))
                      | go_keep)
                    ((first | (go_at_call 22; refine (PX.out _ (by first | exact BZ.out.trans (Below.mono (Below.drew (Below.refl _ _)) BZ.out.size) | exact BZ.out.trans ((QX.held (by assumption)).mono BZ.out.size))).mono ?_; rintro e w' ⟨A3, k3, rfl, hs3, hb⟩)))
                  all_goals
                    have HK := Lib.hid (QX.held (by assumption))
                    have B7 := Lib.hid (BZ.out.trans (HK.out.mono BZ.out.size))
                    have HB7 := Lib.hid (HBZ.out.trans (HK.out.mono HBZ.out.size))
                    have F7 := (HK.out.block gf (Array.getElem?_eq_some_iff.1 HF6.out).1).trans HF6.out
                    obtain ⟨⟨y0, _⟩, _⟩ := six_cells F7
                    clear hE z0 z1 z2 CZ F7 HK
                    have HNF2 : Hid (f.2 = false ∨ (f.1.kind == 2) = false) := Lib.hid (by
                      cases h1 : f.2
                      · exact .inl rfl
                      · cases h2 : (f.1.kind == 2)
                        · exact .inr rfl
                        · exact absurd ⟨h1, h2⟩ HNF.out)
                    obtain ⟨b3, o3, rfl, hlt3, c3⟩ := hs3.2 0 x rfl
                    rw [Nat.add_zero] at c3
                    have X7 := Lib.hid ((HB7.out.block w.heap.size (Array.getElem?_eq_some_iff.1 X3.out).1).trans X3.out)
                    have C7 := (HB7.out.cell (p := ⟨b1, o1 + j, none⟩) HLT.out).trans HCX.out
                    obtain ⟨q0, q1, q2⟩ := three_cells X7.out
                    have hE : QY w' w.heap.size (.slice A S.defs.length k) (.string S.query) (.string S.mutation) b1 (o1 + j) b3 o3 (.string x) w' := ⟨q0, q1, q2, C7, c3, Below.refl _ _⟩
                    have HL := Lib.hid (Array.getElem?_eq_some_iff.1 X7.out).1
                    have HL2 := Lib.hid (Nat.lt_of_lt_of_le HLT.out HB7.out.size)
                    have HL3 := Lib.hid hlt3
                    have e1 : (x.toList != x.toList) = false := by simp
                    clear hs3 HP1 HM1 PX hlt3
                    generalize w' = wq at B7 HB7 X7 C7 c3 q0 q1 q2 hE HL HL2 HL3 y0 ⊢
                    cases ok : f.2
                    case' true =>
                      have e2 : (f.1.kind == 2) = false := by
                        rcases HNF2.out with h | h
                        · rw [ok] at h; cases h
                        · exact h
                    all_goals
                      go_wp2_with fail
                      go_region_held3 (fun w' => w'.cell? ⟨w.heap.size, 0, none⟩ = some (.slice A S.defs.length k) ∧ w'.cell? ⟨w.heap.size, 1, none⟩ = some (.string S.query) ∧ w'.cell? ⟨w.heap.size, 2, none⟩ = some (.string S.mutation) ∧ w'.cell? ⟨b1, o1 + j, none⟩ = some (.string x) ∧ w'.cell? ⟨b3, o3, none⟩ = some (.string x) ∧ QY wq w.heap.size (.slice A S.defs.length k) (.string S.query) (.string S.mutation) b1 (o1 + j) b3 o3 (.string x) w')
                        (first
                          | exact QY.written (hE.next HL.out HL2.out HL3.out (Below.drew (Below.refl _ _)))
                          | exact QY.written ((hE.next HL.out HL2.out HL3.out (Below.drew (Below.refl _ _))).next HL.out HL2.out HL3.out (by assumption))
                          | exact QY.written (hE.next HL.out HL2.out HL3.out (by assumption))
                          | exact QY.written (QY.next (QY.last (by assumption)) HL.out HL2.out HL3.out (by assumption))
                          | go_keep)
                        ((first | (go_at_call 28; refine (MX.out _ (by first | exact B7.out.trans (Below.mono (Below.drew (Below.refl _ _)) B7.out.size) | exact B7.out.trans ((QY.held (by assumption)).mono B7.out.size))).mono ?_; rintro e w' ⟨rfl, hb⟩)))
                      all_goals
                        have HK := Lib.hid (HB7.out.trans ((QY.held (by assumption)).mono HB7.out.size))
                        clear hE q0 q1 q2 C7 c3 y0
                        go_wp2_with fail
                        go_roundg g
                        case measure => omega
                        case rel => exact ⟨j + 1, by omega, by go_num, HK.out⟩
      · have h01 : ¬ (0 : Int) < (l.length : Int) := by omega
        have h02 : decide ((0 : Int) < (l.length : Int)) = false := decide_eq_false h01
        have hl0 : l.length = 0 := by omega
        obtain rfl : l = [] := List.eq_nil_of_length_eq_zero hl0
        clear hl0 h0
        go_wp2_with fail
        go_loopg [6] 0 (fun g i wx => g = 0 ∧ i = .int .i64 0 ∧ Below w.heap.size w wx)
        case atStart => exact ⟨rfl, rfl, B2.out⟩
        case round =>
          obtain ⟨rfl, rfl, hb⟩ := hrel
          have HB4 := Lib.hid hb
          clear hb
          go_wp2_with fail
          refine (dawake_any _).mono ?_
          rintro e w5 ⟨rfl, hb5⟩
          have B5 := Lib.hid (HB4.out.trans (hb5.mono HB4.out.size))
          clear hb5
          go_wp2_with fail
          go_ret
          exact ⟨rfl, B5.out⟩
end Go.Proofs.Ytiponpcglienpaa.LDPoss
