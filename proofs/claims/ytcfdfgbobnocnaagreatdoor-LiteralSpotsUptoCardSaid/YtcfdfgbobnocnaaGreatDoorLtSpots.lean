/- literal.Spots. (gen_spots.py wrote it.) -/
import Derived.Test.YtcfdfgbobnocnaaGreatDoorLtRight
import Derived.Maps.OwnIn
namespace Go.Proofs.YtcfdfgbobnocnaaGreatDoor
open Go.RowKit
attribute [local go_sem] Oper.semAt_some

def spotC (x : PlT) : List Value := [.string x.v.ss, .string x.tn, .int .i64 x.tl, .int .i64 x.tm, .bool x.has]
def spotsOf (XS : List PlT) : List PlT := XS.filter fun x => x.v.kd == 8
theorem spots_snoc {XS : List PlT} {i : Nat} {x : PlT} (h : XS[i]? = some x) : spotsOf (XS.take (i + 1)) = spotsOf (XS.take i) ++ (if (x.v.kd == 8) = true then [x] else []) := by
  unfold spotsOf
  rw [List.take_add_one, h, List.filter_append]
  congr 1
  cases hk : x.v.kd == 8 <;> simp [hk]
theorem spots_len (XS : List PlT) (i : Nat) : (spotsOf (XS.take i)).length ≤ i := Nat.le_trans (List.length_filter_le ..) (by rw [List.length_take]; omega)
structure RS (W : World) (g0 g1 g2 g3 : Nat) (cs ct cv : Array Value) (vo : Value) : Prop where
  b0 : W.heap[g0]? = some (.cells cs 24 (0, 0))
  b1 : W.heap[g1]? = some (.cells ct 26 (0, 0))
  b2 : W.heap[g2]? = some (.cells cv 30 (0, 0))
  b3 : W.heap[g3]? = some (.cells #[vo] 35 (0, 0))
theorem RS.next {W W' : World} {g0 g1 g2 g3 : Nat} {cs ct cv : Array Value} {vo : Value} (h : RS W g0 g1 g2 g3 cs ct cv vo) (hb : Below W.heap.size W W') : RS W' g0 g1 g2 g3 cs ct cv vo :=
  ⟨(hb.block _ (Array.getElem?_eq_some_iff.1 h.b0).1).trans h.b0, (hb.block _ (Array.getElem?_eq_some_iff.1 h.b1).1).trans h.b1, (hb.block _ (Array.getElem?_eq_some_iff.1 h.b2).1).trans h.b2, (hb.block _ (Array.getElem?_eq_some_iff.1 h.b3).1).trans h.b3⟩
theorem RS.start (w : World) (cs ct cv : Array Value) (vo : Value) : RS ((((w.alloc (.cells cs 24)).alloc (.cells ct 26)).alloc (.cells cv 30)).alloc (.cells #[vo] 35)) w.heap.size (w.heap.size + 1) (w.heap.size + 1 + 1) (w.heap.size + 1 + 1 + 1) cs ct cv vo := by
  refine ⟨?_, ?_, ?_, ?_⟩
  · rw [Below.heap_alloc _ _ _ (by simp; omega), Below.heap_alloc _ _ _ (by simp; omega), Below.heap_alloc _ _ _ (by simp)]; exact heap_alloc_new _ _
  · rw [Below.heap_alloc _ _ _ (by simp), Below.heap_alloc _ _ _ (by simp)]; exact heap_two _ _ _
  · rw [Below.heap_alloc _ _ _ (by simp)]
    have := heap_two (w.alloc (.cells cs 24)) (.cells ct 26) (.cells cv 30)
    simpa using this
  · have := heap_two ((w.alloc (.cells cs 24)).alloc (.cells ct 26)) (.cells cv 30) (.cells #[vo] 35)
    simpa using this
theorem five_news (w : World) (c0 c1 c2 c3 c4 : Value) (t : TypeId) {n : Nat} (hn : n = w.heap.size) : ∀ (j : Nat) u, [c0, c1, c2, c3, c4][j]? = some u → (w.alloc (.cells #[c0, c1, c2, c3, c4] t)).cell? ((⟨n, 0, none⟩ : Addr).add j) = some u := by
  subst hn
  intro j u hu
  rw [add_at, Nat.zero_add]
  match j, hu with
  | 0, hu => cases hu; rw [World.cell?_alloc_at _ _ _ _ rfl]; rfl
  | 1, hu => cases hu; rw [World.cell?_alloc_at _ _ _ _ rfl]; rfl
  | 2, hu => cases hu; rw [World.cell?_alloc_at _ _ _ _ rfl]; rfl
  | 3, hu => cases hu; rw [World.cell?_alloc_at _ _ _ _ rfl]; rfl
  | 4, hu => cases hu; rw [World.cell?_alloc_at _ _ _ _ rfl]; rfl
section
variable {S : SchT} {KS : List ByteArray} {M B pb sb base d : Nat} {c0 c1 c2 : Value} {pcs : Array Value} {G : Gh} {W W6 : World}
theorem RZ.same (h : IJ S KS M B pb sb base d c0 c1 c2 pcs G W) : RZ S.defs KS M G G W W :=
  ⟨⟨rfl, rfl, rfl, Nat.le_refl _, fun _ _ _ => rfl⟩, fun k => k, fun _ h => .inl h, fun _ h => h, fun _ _ h => h, h.ie.zlt, h.ie.zu⟩
theorem RZ.of_append (h : IJ S KS M B pb sb base d c0 c1 c2 pcs G W) {o : Obj} {V x : Value} {g3 g' : Nat} (h3 : G.1 g3) (hg3 : g3 ≠ M) (hv : ∀ b, V.ownBlock = some b → G.1 b ∧ b ≠ M) (hg : (W.alloc o).grownBy W6 V.ownBlock) (hat : V.ownBlock = some g' ∨ g' = W.heap.size + 1 ∨ g' = W.heap.size) (hlt : g' < W6.heap.size) :
    RZ S.defs KS M G (fun b => G.1 b ∨ b = g', G.2) W (W6.setCell ⟨g3, 0, none⟩ x) := by
  have hs := hg.size
  have ha : (W.alloc o).heap.size = W.heap.size + 1 := by simp
  have hc : (W6.setCell ⟨g3, 0, none⟩ x).heap.size = W6.heap.size := by simp [World.setCell]
  have hk : ∀ b, b < W.heap.size → ¬ G.1 b → (W6.setCell ⟨g3, 0, none⟩ x).heap[b]? = W.heap[b]? := fun b hb hn => (Below.heap_setCell _ _ _ _ (by intro e; have e : b = g3 := e; exact hn (e ▸ h3))).trans ((hg.block b (by omega) (fun e => hn (hv b e.symm).1)).trans (Below.heap_alloc _ _ _ hb))
  have hM : ¬ G.1 M ∨ W6.heap[M]? = W.heap[M]? := .inr ((hg.block M (by have := h.ie.ok.ok.lt; omega) (fun e => (hv M e.symm).2 rfl)).trans (Below.heap_alloc _ _ _ h.ie.ok.ok.lt))
  refine ⟨⟨hg.os, hg.tape, hg.output, by omega, fun b hb hn => hk b hb (fun e => hn (.inr e))⟩, fun k => k.keep (by omega) ?_ (fun b hb => hk b (k.lt b hb) (fun e => h.ie.zu b e hb)), fun _ h => .inl h, fun _ h => h, fun b hb hz => ?_, fun b hz => ?_, fun b hz hu => ?_⟩
  · refine (Below.heap_setCell _ _ _ _ (by show M ≠ g3; omega)).trans ?_
    exact (hg.block M (by have := h.ie.ok.ok.lt; omega) (fun e => (hv M e.symm).2 rfl)).trans (Below.heap_alloc _ _ _ h.ie.ok.ok.lt)
  · rcases hz with hz | rfl
    · exact hz
    · rcases hat with e | e | e
      · exact (hv _ e).1
      · omega
      · omega
  · rcases hz with hz | rfl
    · have := h.ie.zlt b hz; omega
    · omega
  · rcases hz with hz | rfl
    · exact h.ie.zu b hz hu
    · rcases hat with e | e | e
      · exact h.ie.zu _ (hv _ e).1 hu
      · have := h.ie.ok.lt _ hu; omega
      · have := h.ie.ok.lt _ hu; omega
end
theorem set_one {w : World} {g : Nat} {u x : Value} {t : TypeId} (h : w.heap[g]? = some (.cells #[u] t (0, 0))) : (w.setCell ⟨g, 0, none⟩ x).heap[g]? = some (.cells #[x] t (0, 0)) := by
  simp [World.setCell, Array.getElem?_modify, h]
def postR (n : Nat) (P : Program) (fn : Func) (R : Ending → World → Prop) : Exit → Act → World → Prop
  | .ret, a, w => bodyPostM Fence.wide n P fn R .ret a w
  | _, _, _ => False
theorem wp_postR {n : Nat} {P : Program} {fn : Func} {R : Ending → World → Prop} {c : Code} {a : Act} {w : World} (h : c.wp P (postR n P fn R) a w) : c.wpIn Fence.wide n P (bodyPostM Fence.wide n P fn R) a w :=
  wpIn_mono (wpIn_wide.2 h) (fun e a w hq => by
    cases e
    case ret => exact hq
    all_goals exact hq.elim)
theorem spot_row : ∃ i z, Tryz.prog.info? 42 = some i ∧ i.zero = some z ∧ i.size = 5 ∧ i.bytes = 56 ∧ z.cells.size = 5 := info_of (by kernel_rfl)
def QA (w1 W : World) (g0 g1 g2 g3 : Nat) (cs ct cv : Array Value) (vo : Value) : Prop := RS W g0 g1 g2 g3 cs ct cv vo ∧ Below w1.heap.size w1 W
theorem QA.written {w1 W : World} {g0 g1 g2 g3 : Nat} {a0 a1 a2 b0 b1 b2 c0 c1 c2 c3 c4 : Value} {vo : Value} (h : QA w1 W g0 g1 g2 g3 #[a0, a1, a2] #[b0, b1, b2] #[c0, c1, c2, c3, c4] vo) : W.cell? ⟨g0, 0, none⟩ = some a0 ∧ W.cell? ⟨g0, 1, none⟩ = some a1 ∧ W.cell? ⟨g0, 2, none⟩ = some a2 ∧ W.cell? ⟨g1, 0, none⟩ = some b0 ∧ W.cell? ⟨g1, 1, none⟩ = some b1 ∧ W.cell? ⟨g1, 2, none⟩ = some b2 ∧ W.cell? ⟨g2, 0, none⟩ = some c0 ∧ W.cell? ⟨g2, 1, none⟩ = some c1 ∧ W.cell? ⟨g2, 2, none⟩ = some c2 ∧ W.cell? ⟨g2, 3, none⟩ = some c3 ∧ W.cell? ⟨g2, 4, none⟩ = some c4 ∧ QA w1 W g0 g1 g2 g3 #[a0, a1, a2] #[b0, b1, b2] #[c0, c1, c2, c3, c4] vo := by
  obtain ⟨x0, x1, x2⟩ := three_cells h.1.b0
  obtain ⟨y0, y1, y2⟩ := three_cells h.1.b1
  obtain ⟨z0, z1, z2, z3, z4⟩ := five_box h.1.b2
  exact ⟨x0, x1, x2, y0, y1, y2, z0, z1, z2, z3, z4, h⟩
theorem QA.last {p1 p2 p3 p4 p5 p6 p7 p8 p9 p10 p11 q : Prop} (h : p1 ∧ p2 ∧ p3 ∧ p4 ∧ p5 ∧ p6 ∧ p7 ∧ p8 ∧ p9 ∧ p10 ∧ p11 ∧ q) : q := h.2.2.2.2.2.2.2.2.2.2.2
theorem QA.next {w1 W W' : World} {g0 g1 g2 g3 : Nat} {cs ct cv : Array Value} {vo : Value} (h : QA w1 W g0 g1 g2 g3 cs ct cv vo) (hb : Below W.heap.size W W') : QA w1 W' g0 g1 g2 g3 cs ct cv vo := ⟨h.1.next hb, h.2.trans (hb.mono h.2.size)⟩
set_option maxRecDepth 100000 in
set_option maxHeartbeats 8000000 in
theorem spots_any (S : SchT) (n : ByteArray) (l m : Int) (hs : Bool) (v : VT) (c0 c1 c2 : Value) (A3 A4 : Option Addr) (k3 k4 : Nat) (w : World) (B : Nat) (hB : B ≤ w.heap.size) (hz : SlimS S)
    (XS : List PlT) (hXS : XS = allP S.defs ⟨n, l, m, hs, v⟩) (KS : List ByteArray) (hKS : KS.length ≤ maxLen) (hsl : ∀ x, x ∈ XS → SlimP KS x) (hN : XS.length ≤ 1099511627776) (hnm : n.size ≤ 9223372036854775807)
    (hS : TS w (fun b => b < B) (encSch S) [c0, c1, c2]) (hV : TS w (fun b => b < B) (encV v) [.int .i64 v.kd, .int .i64 v.nn, .string v.ss, .slice A3 v.ls.len k3, .slice A4 v.ms.len k4]) :
    Calls Tryz.prog 11 #[.agg #[c0, c1, c2], .agg #[.string n, .int .i64 l, .int .i64 m], .bool hs, .agg #[.int .i64 v.kd, .int .i64 v.nn, .string v.ss, .slice A3 v.ls.len k3, .slice A4 v.ms.len k4]] w fun e w' => ∃ V, e = .returned V ∧ (∃ b, w.heap.size ≤ b ∧ w'.ownsRow b 42 5 V (spotsOf XS).length ((spotsOf XS).flatMap spotC)) ∧ Below w.heap.size w w' := by
  obtain ⟨A, k, e, _⟩ := sch_cells hS
  injection e with e0 e
  injection e with e1 e
  injection e with e2 e
  subst e0 e1 e2
  have HS := Lib.hid hS
  have HV := Lib.hid hV
  have HSL := Lib.hid hsl
  have HX := Lib.hid hXS
  have HZ := Lib.hid hz
  obtain ⟨i0, z, hi0, hz0, hz1, hz2, hz3⟩ := spot_row
  clear hS hV hsl hXS hz
  refine callsIn_wide.1 (callsIn_of_wp_marks (F := Fence.wide) (n := 3) Tryz.func11 rfl trivial ?_)
  simp only [Tryz.ntmps11, List.size_toArray, List.length_cons, List.length_nil, Nat.reduceAdd, Nat.reduceSub, Array.replicate_succ, Array.replicate_zero, List.push_toArray, List.append_toArray, List.nil_append, List.cons_append]
  refine wp_postR ?_
  go_upto_region 2 with fail
  have R0 := Lib.hid (RS.start w #[.slice A S.defs.length k, .string S.query, .string S.mutation] #[.string n, .int .i64 l, .int .i64 m] #[.int .i64 v.kd, .int .i64 v.nn, .string v.ss, .slice A3 v.ls.len k3, .slice A4 v.ms.len k4] (.slice none 0 0))
  have B0 := Lib.hid (four_low w (.cells #[.slice A S.defs.length k, .string S.query, .string S.mutation] 24) (.cells #[.string n, .int .i64 l, .int .i64 m] 26) (.cells #[.int .i64 v.kd, .int .i64 v.nn, .string v.ss, .slice A3 v.ls.len k3, .slice A4 v.ms.len k4] 30) (.cells #[.slice none 0 0] 35))
  generalize (((w.alloc (.cells #[.slice A S.defs.length k, .string S.query, .string S.mutation] 24)).alloc (.cells #[.string n, .int .i64 l, .int .i64 m] 26)).alloc (.cells #[.int .i64 v.kd, .int .i64 v.nn, .string v.ss, .slice A3 v.ls.len k3, .slice A4 v.ms.len k4] 30)).alloc (.cells #[.slice none 0 0] 35) = w1 at R0 B0 ⊢
  generalize hg3 : w.heap.size + 1 + 1 + 1 = g3 at R0 ⊢
  generalize hg2 : w.heap.size + 1 + 1 = g2 at R0 ⊢
  generalize hg1 : w.heap.size + 1 = g1 at R0 ⊢
  have HG := Lib.hid (And.intro hg1 (And.intro hg2 hg3))
  clear hg1 hg2 hg3
  have AK := Lib.hid (fun (wx : World) => ask_any A S.defs.length k S.query S.mutation wx)
  refine wp_region_held_drew (S := (fun w' => w'.cell? ⟨w.heap.size, 0, none⟩ = some (.slice A S.defs.length k) ∧ w'.cell? ⟨w.heap.size, 1, none⟩ = some (.string S.query) ∧ w'.cell? ⟨w.heap.size, 2, none⟩ = some (.string S.mutation) ∧ w'.cell? ⟨g1, 0, none⟩ = some (.string n) ∧ w'.cell? ⟨g1, 1, none⟩ = some (.int .i64 l) ∧ w'.cell? ⟨g1, 2, none⟩ = some (.int .i64 m) ∧ w'.cell? ⟨g2, 0, none⟩ = some (.int .i64 v.kd) ∧ w'.cell? ⟨g2, 1, none⟩ = some (.int .i64 v.nn) ∧ w'.cell? ⟨g2, 2, none⟩ = some (.string v.ss) ∧ w'.cell? ⟨g2, 3, none⟩ = some (.slice A3 v.ls.len k3) ∧ w'.cell? ⟨g2, 4, none⟩ = some (.slice A4 v.ms.len k4) ∧ QA w1 w' w.heap.size g1 g2 g3 #[.slice A S.defs.length k, .string S.query, .string S.mutation] #[.string n, .int .i64 l, .int .i64 m] #[.int .i64 v.kd, .int .i64 v.nn, .string v.ss, .slice A3 v.ls.len k3, .slice A4 v.ms.len k4] (.slice none 0 0))) (by kernel_rfl) (QA.written ⟨R0.out.next (Below.drew (Below.refl _ _)), Below.drew (Below.refl _ _)⟩) (fun hHeld => ?_)
  refine wpAnyH_take (i := 0) (oi := _) (v := ?_) rfl (by kernel_rfl) (by kernel_rfl) (by kernel_rfl) (fun _ _ _ h => h) (Or.inl ⟨by rfl, ?_⟩) (by assumption) ?_
  rotate_left
  · (intro w hSw; (try dsimp only at hSw); go_simp; try with_reducible rfl)
  try simp only [Act.put, List.getElem_toArray, List.getElem_cons_zero, List.setIfInBounds_toArray, List.set_cons_zero, List.set_cons_succ]
  refine wpAnyH_take (i := 2) (oi := _) (v := ?_) rfl (by kernel_rfl) (by kernel_rfl) (by kernel_rfl) (fun _ _ _ h => h) (Or.inl ⟨by rfl, ?_⟩) (by assumption) ?_
  rotate_left
  · (intro w hSw; (try dsimp only at hSw); go_simp; try with_reducible rfl)
  try simp only [Act.put, List.getElem_toArray, List.getElem_cons_zero, List.getElem_cons_succ, List.setIfInBounds_toArray, List.set_cons_zero, List.set_cons_succ]
  refine wpAnyH_take (i := 3) (oi := _) (v := ?_) rfl (by kernel_rfl) (by kernel_rfl) (by kernel_rfl) (fun _ _ _ h => h) (Or.inl ⟨by rfl, ?_⟩) (by assumption) ?_
  rotate_left
  · (intro w hSw; (try dsimp only at hSw); go_simp; try with_reducible rfl)
  try simp only [Act.put, List.getElem_toArray, List.getElem_cons_zero, List.getElem_cons_succ, List.setIfInBounds_toArray, List.set_cons_zero, List.set_cons_succ]
  refine wpAnyH_take (i := 4) (oi := _) (v := ?_) rfl (by kernel_rfl) (by kernel_rfl) (by kernel_rfl) (fun _ _ _ h => h) (Or.inl ⟨by rfl, ?_⟩) (by assumption) ?_
  rotate_left
  · (intro w hSw; (try dsimp only at hSw); go_simp; try with_reducible rfl)
  try simp only [Act.put, List.getElem_toArray, List.getElem_cons_zero, List.getElem_cons_succ, List.setIfInBounds_toArray, List.set_cons_zero, List.set_cons_succ]
  refine wpAnyH_take (i := 5) (oi := _) (v := ?_) rfl (by kernel_rfl) (by kernel_rfl) (by kernel_rfl) (fun _ _ _ h => h) (Or.inl ⟨by rfl, ?_⟩) (by assumption) ?_
  rotate_left
  · (intro w hSw; (try dsimp only at hSw); go_simp; try with_reducible rfl)
  try simp only [Act.put, List.getElem_toArray, List.getElem_cons_zero, List.getElem_cons_succ, List.setIfInBounds_toArray, List.set_cons_zero, List.set_cons_succ]
  refine wpAnyH_ready (rs := [1]) (by kernel_rfl) (by simp) ?_
  refine AllReadyH.cons (o := _) rfl (fun K hK => ?_) AllReadyH.nil
  go_simp
  refine (AK.out _).mono ?_
  rintro e w3 ⟨M, rfl, hb3, hM3, hO3⟩
  have HB3 := Lib.hid hb3
  have HM := Lib.hid hM3
  have HO := Lib.hid hO3
  clear hb3 hM3 hO3
  go_wp2_with fail
  refine hK.out _ _ (QA.written ((QA.last hHeld).next HB3.out)) (fun hHeld => ?_)
  clear hK K
  try simp only [Act.put, List.getElem_toArray, List.getElem_cons_zero, List.getElem_cons_succ, List.setIfInBounds_toArray, List.set_cons_zero, List.set_cons_succ]
  refine wpAnyH_ready (rs := [6]) (by kernel_rfl) (by simp) ?_
  refine AllReadyH.cons (o := _) rfl (fun K hK => ?_) AllReadyH.nil
  go_simp
  refine (places_any A A3 A4 S.defs.length k M S.query S.mutation n v.ss l m v.kd v.nn hs v.ls.len k3 v.ms.len k4 w3).mono ?_
  rintro e w5 ⟨rfl, hw5⟩
  have HW5 := Lib.hid hw5
  have L35 : Below w3.heap.size w3 w5 := by rw [hw5]; exact two_below _ _ _
  have HL35 := Lib.hid L35
  clear hw5 L35
  go_wp2_with fail
  refine hK.out _ _ (QA.written ((QA.last hHeld).next HL35.out)) (fun hHeld => ?_)
  clear hK K
  try simp only [Act.put, List.getElem_toArray, List.getElem_cons_zero, List.getElem_cons_succ, List.setIfInBounds_toArray, List.set_cons_zero, List.set_cons_succ]
  refine wpAnyH_done (by kernel_rfl) ?_ _
  have Q5 := Lib.hid (QA.last hHeld)
  clear hHeld
  go_wp2_with fail
  clear hHeld
  obtain ⟨ga, hga⟩ : ∃ g, w3.heap.size = g := ⟨_, rfl⟩
  have hsz5 : w5.heap.size = ga + 2 := by rw [HW5.out]; simp; omega
  have S5 : w5.heap[ga]? = some (.cells #[.slice A S.defs.length k, .string S.query, .string S.mutation, .map (some M)] 57 (0, 0)) := by rw [HW5.out, Below.heap_alloc _ _ _ (by simp; omega), ← hga]; exact heap_alloc_new _ _
  have P5 : w5.heap[ga + 1]? = some (.cells #[.string n, .int .i64 l, .int .i64 m, .bool hs, .int .i64 v.kd, .int .i64 v.nn, .string v.ss, .slice A3 v.ls.len k3, .slice A4 v.ms.len k4] 61 (0, 0)) := by rw [HW5.out, ← hga]; exact heap_two _ _ _
  have hg3lt : g3 < w1.heap.size ∧ w.heap.size ≤ g3 := ⟨(Array.getElem?_eq_some_iff.1 R0.out.b3).1, by have := HG.out; omega⟩
  have hMr : w1.heap.size ≤ M ∧ M < ga := ⟨HM.out, by have := (HO.out [] (fun _ => False) []).lt; omega⟩
  have LW := Lib.hid (B0.out.trans (Q5.out.2.mono B0.out.size))
  have O5 := Lib.hid (fun (X : Nat → Prop) => (HO.out S.defs X KS).low HL35.out)
  have h35 := Q5.out.1.b3
  rw [hga]
  have HS5 := Lib.hid S5
  have HP5 := Lib.hid P5
  have H35 := Lib.hid h35
  clear S5 P5 h35 HW5 HM HO hga R0 Q5 HB3 HL35 B0 AK
  have hBM : B ≤ M := by have := LW.out.size; omega
  have TSC := Lib.hid (TS.low (LW.out.mono hB) HS.out)
  have TVV := Lib.hid (TS.low (LW.out.mono hB) HV.out)
  have hBg : B ≤ g3 := by omega
  have IS0 : Hid (∀ W1, Below w5.heap.size w5 W1 → W1.heap.size = w5.heap.size + 2 → IE S KS M B (ga + 1) ga (w5.heap.size + 2) (.slice A S.defs.length k) (.string S.query) (.string S.mutation) #[.string n, .int .i64 l, .int .i64 m, .bool hs, .int .i64 v.kd, .int .i64 v.nn, .string v.ss, .slice A3 v.ls.len k3, .slice A4 v.ms.len k4] (fun b => b = w5.heap.size + 1 ∨ b = g3, fun b => b < B) W1) := Lib.hid (by
    intro W1 hbl hsl1
    refine IE.start _ hBM (by omega) (by omega) (fun b hb => by rcases hb with rfl | rfl <;> omega) (by omega) (by omega) ((O5.out _).low hbl) ((hbl.block _ (by omega)).trans HP5.out) ((hbl.block _ (by omega)).trans HS5.out) (TS.low (hbl.mono (by omega)) TSC.out))
  refine (wpIn_wide (n := 3)).1 (wpIn_rangeFunc_z (F := Fence.wide) rfl (by decide) (gf := 45) (lb := #[.pointer (some ⟨ga + 1, 0, none⟩), .pointer (some ⟨ga, 0, none⟩)]) rfl trivial (enters_of Tryz.func45 (by kernel_rfl) rfl)
    XS.length encP (LiesP XS B) (TZ S.defs KS M (w5.heap.size + 2)) (fun Z Z' A B => Z' = Z ∧ Below A.heap.size A B) (RZ S.defs KS M) (fun _ => rfl) ((fun b => b = w5.heap.size + 1 ∨ b = g3), (fun b => b < B))
    (fun i Z W => IJ S KS M B (ga + 1) ga (w5.heap.size + 2) (w5.heap.size + 1) (.slice A S.defs.length k) (.string S.query) (.string S.mutation) #[.string n, .int .i64 l, .int .i64 m, .bool hs, .int .i64 v.kd, .int .i64 v.nn, .string v.ss, .slice A3 v.ls.len k3, .slice A4 v.ms.len k4] Z W ∧ Below w.heap.size w W ∧ Z.1 g3 ∧ ∃ V, W.heap[g3]? = some (.cells #[V] 35 (0, 0)) ∧ W.ownsRow (w5.heap.size + 2) 42 5 V (spotsOf (XS.take i)).length ((spotsOf (XS.take i)).flatMap spotC) ∧ ∀ b, V.ownBlock = some b → Z.1 b)
    (fun _ _ _ => False)
    ?hTl ?hIT ?hIr ?hIxr ?hRc ?h0 ?hseq ?hround ?hdone ?hstop)
  case hTl =>
    intro Z Z' a b ht c o hc ho
    refine (ht.mo.block c (Array.getElem?_eq_some_iff.1 ho).1 ?_).trans ho
    rintro (e | e) <;> omega
  case hIT =>
    rintro i Z Z' a b ⟨h1, h2, h3, V, h4, h5, h6⟩ ht
    refine ⟨h1.t ht, ⟨ht.mo.os.trans h2.os, ht.mo.tape.trans h2.tape, ht.mo.output.trans h2.output, Nat.le_trans h2.size ht.mo.size, fun c hc => (ht.mo.block c (Nat.lt_of_lt_of_le hc h2.size) (by omega)).trans (h2.block c hc)⟩, by rw [ht.z]; exact h3, V, (ht.mo.block g3 (Array.getElem?_eq_some_iff.1 h4).1 (by omega)).trans h4, own_one h5 (fun c hc => ht.mo.block c (h5.lt c hc).2 ?_), fun c hc => by rw [ht.z]; exact h6 c hc⟩
    rintro (e | e)
    · have := (h5.lt c hc).1; omega
    · exact e.2 (h6 c hc)
  case hIr =>
    rintro i Z W o ⟨h1, h2, h3, V, h4, h5, h6⟩ _
    exact ⟨h1.put (by omega) o, low_put h2 (by omega) o, h3, V, (World.putObj_heap_other (by omega)).trans h4, own_one h5 (fun c hc => World.putObj_heap_other (by have := (h5.lt c hc).1; omega)), h6⟩
  case hIxr =>
    rintro c i W o h _
    exact h
  case hRc =>
    rintro i Z Z1 Z' W W1 W3 o o' ⟨h1, _⟩ ⟨rfl, hb⟩ _ hr
    exact h1.comp (by omega) hb hr
  case h0 =>
    intro W1 hb hs1
    refine ⟨⟨IS0.out W1 hb hs1, fun b h => .inl h, .inl rfl⟩, LW.out.trans (hb.mono LW.out.size), .inr rfl, .slice none 0 0, (hb.block g3 (by omega)).trans H35.out, ?_, fun b hb => by simp [Value.ownBlock] at hb⟩
    rw [List.take_zero]
    exact World.ownsRow_nil _ _ _ _
  case hseq =>
    intro W1 J Jx hb hs1 hJ hY hJ0
    have hTV1 := TS.low (hb.mono (by omega)) TVV.out
    exact iter_in 2 (by decide) S KS hKS HZ.out M B (ga + 1) ga (.slice A S.defs.length k) (.string S.query) (.string S.mutation) ⟨n, l, m, hs, v⟩ A3 A4 k3 k4 XS HX.out HSL.out hN (w5.heap.size + 2) (w5.heap.size + 1) J Jx hJ hY _ W1 hs1.symm hJ0 (IS0.out W1 hb hs1) (pl_ts' hnm hTV1)
  case hround =>
    rintro i x Z W hi ⟨h1, h2, h3, V, h4, h5, h6⟩ ⟨y, hy, hT⟩ hlt
    obtain ⟨E3, j3, E4, j4, rfl, htn, hTv⟩ := pl_cells hT
    have f1 : M < w5.heap.size := by omega
    have f2 : g3 < w5.heap.size ∧ g3 < M := by omega
    have f3 : w.heap.size ≤ w5.heap.size ∧ B ≤ w5.heap.size ∧ w.heap.size ≤ g3 ∧ w.heap.size ≤ M := by omega
    clear hsz5 hMr hg3lt
    have e0 : ∀ z, (#[18].zip (encP z)) = #[(18, .agg z.toArray)] := fun z => by simp [encP]
    simp only [e0]
    gi_wp2
    have hb9 := dbelow_new W (.cells #[.string y.tn, .int .i64 y.tl, .int .i64 y.tm, .bool y.has, .int .i64 y.v.kd, .int .i64 y.v.nn, .string y.v.ss, .slice E3 y.v.ls.len j3, .slice E4 y.v.ms.len j4] 61)
    have i9 := heap_alloc_new W (.cells #[.string y.tn, .int .i64 y.tl, .int .i64 y.tm, .bool y.has, .int .i64 y.v.kd, .int .i64 y.v.nn, .string y.v.ss, .slice E3 y.v.ls.len j3, .slice E4 y.v.ms.len j4] 61)
    generalize W.alloc (.cells #[.string y.tn, .int .i64 y.tl, .int .i64 y.tm, .bool y.has, .int .i64 y.v.kd, .int .i64 y.v.nn, .string y.v.ss, .slice E3 y.v.ls.len j3, .slice E4 y.v.ms.len j4] 61) = V0 at hb9 i9 ⊢
    have hbW : w5.heap.size + 2 ≤ W.heap.size := h1.ie.hbase
    have hj := h1.below hb9
    have h4v := (hb9.block g3 (Array.getElem?_eq_some_iff.1 h4).1).trans h4
    have h2v := h2.trans (hb9.mono h2.size)
    have h5v := own_one (w' := V0) h5 (fun c hc => hb9.block c (h5.lt c hc).2)
    refine ⟨Z, TZ.of_below h1.ie.ok.lt h1.ie.ok.ok.lt hb9, ⟨rfl, hb9⟩, ⟨hj, h2v, h3, V, h4v, h5v, h6⟩, fun o => ?_⟩
    have hp := hj.put (by omega) o
    have i9p := (World.putObj_heap_other (w := V0) (r := w5.heap.size + 1) (o := o) (show W.heap.size ≠ w5.heap.size + 1 by omega)).trans i9
    have h4p := (World.putObj_heap_other (w := V0) (r := w5.heap.size + 1) (o := o) (show g3 ≠ w5.heap.size + 1 by omega)).trans h4v
    have h2p := low_put h2v (d := w5.heap.size + 1) (by omega) o
    have h5p := own_one (w' := V0.putObj (w5.heap.size + 1) o) h5v (fun c hc => World.putObj_heap_other (by have := (h5v.lt c hc).1; omega))
    generalize V0.putObj (w5.heap.size + 1) o = V1 at hp i9p h4p h2p h5p ⊢
    generalize W.heap.size = gb at i9p ⊢
    have HP := Lib.hid hp
    have HY := Lib.hid hy
    have H4 := Lib.hid h4p
    have H2 := Lib.hid h2p
    have H5 := Lib.hid h5p
    have H6 := Lib.hid h6
    obtain ⟨q0, q1⟩ := one_box h4p
    obtain ⟨⟨y0, y1, y2, y3, y4, y5, y6, y7, y8⟩, _⟩ := nine_cells i9p
    have hd1 : w5.heap.size + 1 < V1.heap.size := hp.ie.zlt _ hp.zd
    have hg31 : g3 < V1.heap.size := (Array.getElem?_eq_some_iff.1 h4p).1
    have hbV : w5.heap.size + 2 ≤ V1.heap.size := hp.ie.hbase
    have hsn := Lib.hid (spots_snoc hy)
    have hln := spots_len XS i
    clear hp hy h4p h2p h5p h6 i9p hj h4v h2v h5v i9 hb9 h1 h2 h4 h5 hTv hT
    obtain ⟨b8, g8⟩ : ∃ b, (y.v.kd == 8) = b := ⟨_, rfl⟩
    rw [g8] at hsn
    cases b8
    · gi_wp2
      refine ⟨⟨rfl, rfl⟩, Z, ⟨HP.out, H2.out, h3, V, H4.out, ?_, H6.out⟩, RZ.same HP.out⟩
      rw [hsn.out, if_neg (by simp), List.append_nil]
      exact H5.out
    · gi_wp2_with (gi_at_builtin; go_loud (refine wpListIn_append_own_at _ rfl _ _ 35 rfl (w5.heap.size + 2) 42 i0 z 5 56 Tryz.underlying35 hi0 hz0 hz1 hz2 hz3 (by decide) V (spotsOf (XS.take i)).length ((spotsOf (XS.take i)).flatMap spotC) rfl (H5.out.alloc _) _ 1 1 (spotC y) rfl rfl (five_news _ _ _ _ _ _ _ (by first | rfl | (simp; done))) (by intro u hu; simp [spotC] at hu; rcases hu with rfl | rfl | rfl | rfl | rfl <;> rfl) (by unfold maxLen; omega) (by omega) (by simp; omega) ?_; intro v' w' hown' hgrow _ hat; have hg3' := (hgrow.block g3 (by simp; omega) (fun e => by have := (H5.out.lt g3 e.symm).1; omega)).trans ((Below.heap_alloc _ _ _ hg31).trans H4.out); obtain ⟨g', cap', rfl⟩ := ownsRow_succ hown'; have HO' := Lib.hid hown'; have HGR := Lib.hid hgrow; have HAT := Lib.hid hat; have H3' := Lib.hid hg3'; have q2 := (one_box hg3').1; have q3 := (one_box hg3').2; clear hown' hgrow hat hg3'))
      have hr := RZ.of_append (x := .slice (some ⟨g', 0, none⟩) ((spotsOf (XS.take i)).length + 1) cap') HP.out (V := V) (g3 := g3) (g' := g') h3 (by omega) (fun b e => ⟨H6.out b e, by have := (H5.out.lt b e).1; omega⟩) HGR.out (by
        rcases HAT.out with e | e
        · exact .inl e.symm
        · refine .inr (.inl ?_)
          simpa [Value.ownBlock] using e) (HO'.out.lt g' rfl).2
      have hbk : ∀ b, b < V1.heap.size → b ≠ g3 → V.ownBlock ≠ some b → (w'.setCell ⟨g3, 0, none⟩ (.slice (some ⟨g', 0, none⟩) ((spotsOf (XS.take i)).length + 1) cap')).heap[b]? = V1.heap[b]? := fun b hb hne hno => (Below.heap_setCell _ _ _ _ hne).trans ((HGR.out.block b (by simp; omega) (fun e => hno e.symm)).trans (Below.heap_alloc _ _ _ hb))
      refine ⟨⟨hbk _ hd1 (by omega) (fun e => by have := (H5.out.lt _ e).1; omega), hbk _ (by omega) (by omega) (fun e => by have := (H5.out.lt _ e).1; omega)⟩, _, _, ⟨HP.out.r hr (.inl HP.out.zd), ?_, .inl h3, _, set_one H3'.out, ?_, fun b e => .inr (by simpa [Value.ownBlock] using e.symm)⟩, hr⟩
      · exact ((H2.out.alloc H2.out.size _).grown HGR.out (by have := H2.out.size; simp; omega) (fun c hc => by have := (H5.out.lt c hc).1; omega)).setCell (p := ⟨g3, 0, none⟩) (by show _ ≤ g3; omega) _
      · rw [hsn.out, if_pos (by trivial), List.flatMap_append, List.length_append]
        refine own_one ?_ (fun c hc => Below.heap_setCell _ _ _ _ (by have := (HO'.out.lt c hc).1; show c ≠ g3; omega))
        simpa using HO'.out
  case hdone =>
    rintro Z W ⟨h1, h2, h3, V, h4, h5, h6⟩ hK
    obtain ⟨q0, q1⟩ := one_box h4
    go_wp2_with fail
    rw [List.take_length] at h5
    refine postM_mark (D := w5.heap.size) rfl hK (fun w' hb => results_tmp rfl _ _ _) (fun w' e1 e2 e3 e4 hb => ⟨V, rfl, ⟨w5.heap.size + 2, by omega, own_one h5 (fun c hc => hb c (by have := (h5.lt c hc).1; omega))⟩, ?_⟩)
    exact ⟨e1.trans h2.os, e2.trans h2.tape, e3.trans h2.output, by rw [e4]; exact h2.size, fun b hb' => (hb b (by omega)).trans (h2.block b hb')⟩
  case hstop =>
    rintro c i W hi h hK
    exact h.elim
end Go.Proofs.YtcfdfgbobnocnaaGreatDoor
