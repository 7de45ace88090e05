/- graph.Spreads. (gen_grspr.py wrote it.) -/
import Derived.Test.YtohkimibphleaaaGrIt
import Derived.Test.YtohkimibphleaaaGrMap
import Derived.Maps.OwnIn
import Derived.RangeFuncBox
namespace Go.Proofs.Ytohkimibphleaaa
open Go.RowKit
attribute [local go_sem] Oper.semAt_some

/-- A name more, if it is spread and new. -/
def addS (out : List ByteArray) (x : SelT) : List ByteArray := if (x.kind == 1 && !inN out x.name) = true then out ++ [x.name] else out
def sprL (XS : List SelT) : List ByteArray := XS.foldl addS []
theorem spr_next {XS : List SelT} {i : Nat} {x : SelT} (h : XS[i]? = some x) : sprL (XS.take (i + 1)) = addS (sprL (XS.take i)) x := by
  unfold sprL
  rw [List.take_add_one, h, List.foldl_append]
  rfl
theorem spr_size (XS : List SelT) (i : Nat) : (sprL (XS.take i)).length ≤ i := by
  induction i with
  | zero => rw [List.take_zero]; exact Nat.le_refl _
  | succ i ih =>
    cases h : XS[i]? with
    | none => rw [List.take_add_one, h, Option.toList_none, List.append_nil]; omega
    | some x =>
      rw [spr_next h]
      unfold addS
      split
      · rw [List.length_append, List.length_singleton]; omega
      · omega
theorem glow_put {B d : Nat} {w W : World} (h : Below B w W) (hd : B ≤ d) (o : Obj) : Below B w (W.putObj d o) :=
  ⟨h.os, h.tape, h.output, by simp; exact h.size, fun b hb => (World.putObj_heap_other (by omega)).trans (h.block b hb)⟩
/-- What a range keeps from round to round: the out box at n, the map at n + 1, its box at n + 2. -/
structure SprI (w : World) (B n : Nat) (out : List ByteArray) (Z : Nat → Prop) (W : World) : Prop where
  ie : IG B (n + 6) Z W
  zd : Z (n + 5)
  z0 : Z n
  z1 : Z (n + 1)
  z2 : ¬ Z (n + 2)
  low : Below n w W
  box : W.heap[n + 2]? = some (.cells #[.map (some (n + 1))] 73 (0, 0))
  seen : SeenM W (n + 1) out
  out : ∃ V, W.heap[n]? = some (.cells #[V] 32 (0, 0)) ∧ W.ownsRow (n + 6) 9 1 V out.length (out.map .string) ∧ ∀ b, V.ownBlock = some b → Z b
section
variable {w W W' : World} {B n : Nat} {out : List ByteArray} {Z Z' : Nat → Prop}
theorem SprI.t (h : SprI w B n out Z W) (ht : TG (n + 6) Z Z' W W') : SprI w B n out Z' W' := by
  obtain ⟨rfl, hm⟩ := ht
  have hb := h.ie.hb
  obtain ⟨V, h1, h2, h3⟩ := h.out
  have hk : ∀ b, b < n + 6 → W'.heap[b]? = W.heap[b]? := fun b hl => hm.block b (by omega) (by omega)
  exact ⟨h.ie.t ⟨rfl, hm⟩, h.zd, h.z0, h.z1, h.z2, ⟨hm.os.trans h.low.os, hm.tape.trans h.low.tape, hm.output.trans h.low.output, Nat.le_trans h.low.size hm.size, fun b hl => (hk b (by omega)).trans (h.low.block b hl)⟩, (hk _ (by omega)).trans h.box, h.seen.one (hk _ (by omega)), V, (hk _ (by omega)).trans h1, gown_one h2 (fun b e => hm.block b (h2.lt b e).2 (fun hx => hx.2 (h3 b e))), h3⟩
theorem SprI.below (h : SprI w B n out Z W) (hb : Below W.heap.size W W') : SprI w B n out Z W' := h.t (.of_below hb)
theorem SprI.put (h : SprI w B n out Z W) (o : Obj) : SprI w B n out Z (W.putObj (n + 5) o) := by
  have hb := h.ie.hb
  obtain ⟨V, h1, h2, h3⟩ := h.out
  have hk : ∀ b, b ≠ n + 5 → (W.putObj (n + 5) o).heap[b]? = W.heap[b]? := fun b hl => World.putObj_heap_other hl
  exact ⟨⟨fun b hz => by simp; exact h.ie.zlt b hz, h.ie.zB, h.ie.hB, by simp; exact hb⟩, h.zd, h.z0, h.z1, h.z2, glow_put h.low (by omega) o, (hk _ (by omega)).trans h.box, h.seen.one (hk _ (by omega)), V, (hk _ (by omega)).trans h1, gown_one h2 (fun b e => hk b (by have := (h2.lt b e).1; omega)), h3⟩
theorem RG.comp {W1 W3 : World} {o o' : Obj} {d : Nat} (hd : Z d) (_hl : ∀ b, Z b → b < W.heap.size) (hb : Below W.heap.size W W1) (hr : RG Z Z' (W1.putObj d o) W3) : RG Z Z' W (W3.putObj d o') := by
  have hs := hb.size
  have hs3 := hr.mo.size
  rw [World.putObj_size] at hs3
  exact ⟨((MoG.of_below hb).trans (MoG.put hd o)).trans (hr.mo.trans (MoG.put hd o')), fun b hlt hz => hr.old b (by simp; omega) hz, fun b hz => by simp; exact hr.lt b hz⟩
theorem RG.same (h : IG B (n + 6) Z W) : RG Z Z W W := ⟨.refl _ _, fun _ _ h => h, h.zlt⟩
theorem gown_base {base base' : Nat} {w : World} {e : TypeId} {k m : Nat} {v : Value} {xs : List Value} (h : w.ownsRow base e k v m xs) (hb : base' ≤ base) : w.ownsRow base' e k v m xs := by
  obtain ⟨h1, h2⟩ := h
  refine ⟨h1, h2.imp_right ?_⟩
  rintro ⟨g, cap, cur, h3, h4, h5⟩
  exact ⟨g, cap, cur, h3, Nat.le_trans hb h4, h5⟩
/-- A name more: behind the map's store, the append and the variable's. -/
theorem SprI.more {s : ByteArray} {V V2 : Value} {w1 w2 : World} {o : Obj} {g2 : Nat} (h : SprI w B n out Z W) (h1 : W.heap[n]? = some (.cells #[V] 32 (0, 0))) (h2 : W.ownsRow (n + 6) 9 1 V out.length (out.map .string)) (h3 : ∀ b, V.ownBlock = some b → Z b)
    (hm : SeenM w1 (n + 1) (out ++ [s])) (hg1 : W.grownBy w1 (some (n + 1)))
    (hown : w2.ownsRow (n + 6) 9 1 V2 (out.length + 1) (out.map .string ++ [.string s])) (hg2 : (w1.alloc o).grownBy w2 V.ownBlock) (hV2 : V2.ownBlock = some g2) (hat : V.ownBlock = some g2 ∨ g2 = (w1.alloc o).heap.size) :
    SprI w B n (out ++ [s]) (fun b => Z b ∨ b = g2) (w2.setCell ⟨n, 0, none⟩ V2) ∧ RG Z (fun b => Z b ∨ b = g2) W (w2.setCell ⟨n, 0, none⟩ V2) ∧ ∀ b, b < n + 6 → b ≠ n → b ≠ n + 1 → (w2.setCell ⟨n, 0, none⟩ V2).heap[b]? = W.heap[b]? := by
  have hb := h.ie.hb
  have hs1 := hg1.size
  have hs2 := hg2.size
  have hal : (w1.alloc o).heap.size = w1.heap.size + 1 := by simp
  have hsz : (w2.setCell ⟨n, 0, none⟩ V2).heap.size = w2.heap.size := by simp [World.setCell]
  have hgl := hown.lt g2 hV2
  have hBb := h.ie.hB
  have hVn : ∀ b, V.ownBlock = some b → n + 6 ≤ b := fun b e => (h2.lt b e).1
  have hk2 : ∀ b, b < w1.heap.size → V.ownBlock ≠ some b → w2.heap[b]? = w1.heap[b]? := fun b hl hne => (hg2.block b (by omega) (fun e => hne e.symm)).trans (Below.heap_alloc _ _ _ hl)
  have hk : ∀ b, b < W.heap.size → b ≠ n → b ≠ n + 1 → V.ownBlock ≠ some b → (w2.setCell ⟨n, 0, none⟩ V2).heap[b]? = W.heap[b]? := fun b hl e1 e2 e3 => (Below.heap_setCell _ _ _ _ e1).trans ((hk2 b (by omega) e3).trans (hg1.block b hl (fun e => e2 (by injection e))))
  have hz2 : ∀ b, b < W.heap.size → b = g2 → Z b := fun b hl e => by
    rcases hat with e2 | e2
    · exact h3 b (e ▸ e2)
    · omega
  have hmo : MoG Z W (w2.setCell ⟨n, 0, none⟩ V2) := ⟨hg2.os.trans hg1.os, hg2.tape.trans hg1.tape, hg2.output.trans hg1.output, by omega, fun b hl hn => hk b hl (fun e => hn (e ▸ h.z0)) (fun e => hn (e ▸ h.z1)) (fun e => hn (h3 b e))⟩
  have hrg : RG Z (fun b => Z b ∨ b = g2) W (w2.setCell ⟨n, 0, none⟩ V2) := ⟨hmo, fun b hl hz => hz.elim id (hz2 b hl), fun b hz => by
    rcases hz with hz | rfl
    · have := h.ie.zlt b hz; omega
    · omega⟩
  refine ⟨⟨h.ie.r hrg, .inl h.zd, .inl h.z0, .inl h.z1, fun hz => ?_, ?_, (hk _ (by omega) (by omega) (by omega) (fun e => by have := hVn _ e; omega)).trans h.box, hm.one ((Below.heap_setCell _ _ _ _ (by show n + 1 ≠ n; omega)).trans (hk2 _ (by omega) (fun e => by have := hVn _ e; omega))), V2, ?_, ?_, fun b e => .inr ?_⟩, hrg, fun b hl e1 e2 => hk b (by omega) e1 e2 (fun e => by have := hVn b e; omega)⟩
  · rcases hz with hz | hz
    · exact h.z2 hz
    · omega
  · exact ⟨hmo.os.trans h.low.os, hmo.tape.trans h.low.tape, hmo.output.trans h.low.output, Nat.le_trans h.low.size hmo.size, fun b hl => (hk b (by omega) (by omega) (by omega) (fun e => by have := hVn _ e; omega)).trans (h.low.block b hl)⟩
  · have hbx : w2.heap[n]? = some (.cells #[V] 32 (0, 0)) := (hk2 n (by omega) (fun e => by have := hVn _ e; omega)).trans ((hg1.block n (by omega) (fun e => by injection e with e; omega)).trans h1)
    simp [World.setCell, Array.getElem?_modify, hbx]
  · rw [List.length_append, List.length_singleton, List.map_append]
    exact gown_one hown (fun b e => Below.heap_setCell _ _ _ _ (by show b ≠ n; have := (hown.lt b e).1; omega))
  · rw [hV2] at e
    injection e with e
    exact e.symm
end
theorem gpostM_mark {n : Nat} {P : Program} {fn : Func} {R : Ending → World → Prop} {a : Act} {w : World} {v : Value} {D : Nat} (hd : a.defers = [{ target := .collected D, args := #[] }]) (hK : w.heap[D]? = some (.deferred (some []))) (hr : ∀ w', (∀ b, b ≠ D → w'.heap[b]? = w.heap[b]?) → (results fn a.tmps).run P w' = .ok v w') (hR : ∀ w', w'.os = w.os → w'.tape = w.tape → w'.output = w.output → w'.heap.size = w.heap.size → (∀ b, b ≠ D → w'.heap[b]? = w.heap[b]?) → R (.returned v) w') : bodyPostM Fence.wide n P fn R .ret a w := by
  show LeavesInM _ _ _ _ _ _ a.defers _ _
  rw [hd]
  refine ⟨by simp, .inl ⟨_, _, rfl, run_takeDeferred hK, ?_⟩⟩
  exact ⟨v, hr _ (fun b hb => World.putObj_heap_other hb), hR _ rfl rfl rfl (by simp) (fun b hb => World.putObj_heap_other hb)⟩
theorem gone_box {w : World} {g : Nat} {u : Value} {t : TypeId} (h : w.heap[g]? = some (.cells #[u] t (0, 0))) : w.cell? ⟨g, 0, none⟩ = some u ∧ w.frozen? ⟨g, 0, none⟩ = false := by
  simp [World.cell?, World.frozen?, h]
theorem gstr_row : ∃ i z, Try.prog.info? 9 = some i ∧ i.zero = some z ∧ i.size = 1 ∧ i.bytes = 16 ∧ z.cells.size = 1 := ginfo_of (by kernel_rfl)
theorem gset_one {w : World} {g : Nat} {u x : Value} {t : TypeId} (h : w.heap[g]? = some (.cells #[u] t (0, 0))) : (w.setCell ⟨g, 0, none⟩ x).heap[g]? = some (.cells #[x] t (0, 0)) := by
  simp [World.setCell, Array.getElem?_modify, h]
/-- The blocks at the range's start. -/
theorem spr_start (w : World) : ∀ W, W = ((w.alloc (.cells #[.slice none 0 0] 32)).alloc (.map #[] 0)).alloc (.cells #[.map (some (w.heap.size + 1))] 73) →
    W.heap.size = w.heap.size + 3 ∧ Below w.heap.size w W ∧ W.heap[w.heap.size]? = some (.cells #[.slice none 0 0] 32 (0, 0)) ∧ SeenM W (w.heap.size + 1) [] ∧ W.heap[w.heap.size + 2]? = some (.cells #[.map (some (w.heap.size + 1))] 73 (0, 0)) := by
  rintro W rfl
  have e1 : (w.alloc (.cells #[.slice none 0 0] 32)).heap.size = w.heap.size + 1 := by simp
  have e2 : ((w.alloc (.cells #[.slice none 0 0] 32)).alloc (.map #[] 0)).heap.size = w.heap.size + 2 := by simp
  refine ⟨by simp, (((Below.refl _ _).alloc (Nat.le_refl _) _).alloc (by simp) _).alloc (by simp; omega) _, ?_, ?_, ?_⟩
  · rw [Below.heap_alloc _ _ _ (by simp; omega), Below.heap_alloc _ _ _ (by simp)]
    exact heap_alloc_new _ _
  · have h := SeenM.made (w.alloc (.cells #[.slice none 0 0] 32))
    rw [e1] at h
    exact h.one (Below.heap_alloc _ _ _ (by simp))
  · have h := heap_alloc_new ((w.alloc (.cells #[.slice none 0 0] 32)).alloc (.map #[] 0)) (.cells #[.map (some (w.heap.size + 1))] 73)
    rw [e2] at h
    exact h
set_option maxRecDepth 100000 in
set_option maxHeartbeats 8000000 in
theorem spreads_any (l : SelL) (A : Option Addr) (k : Nat) (w : World) (B : Nat) (hB : B ≤ w.heap.size) (hS : SelsAt w B l A) (hk : l.len ≤ k) (XS : List SelT) (hXS : XS = gpreL l) (hN : XS.length ≤ 1099511627776) :
    Calls Try.prog 8 #[.slice A l.len k] w fun e w' => ∃ V, e = .returned V ∧ w'.ownsRow w.heap.size 9 1 V (sprL XS).length ((sprL XS).map .string) ∧ Below w.heap.size w w' := by
  have HS := Lib.hid hS
  have HX := Lib.hid hXS
  have HB := Lib.hid hB
  obtain ⟨i0, z, hi0, hz0, hz1, hz2, hz3⟩ := gstr_row
  obtain ⟨n, hn⟩ : ∃ n, w.heap.size = n := ⟨_, rfl⟩
  have HN := Lib.hid hn
  clear hS hXS hB hn
  refine callsIn_wide.1 (callsIn_of_wp_marks (F := Fence.wide) (n := 3) Try.func8 rfl trivial ?_)
  simp only [Try.ntmps8, List.size_toArray, List.length_cons, List.length_nil, Nat.reduceAdd, Nat.reduceSub, Array.replicate_succ, Array.replicate_zero, List.push_toArray, List.append_toArray, List.nil_append, List.cons_append]
  refine wpIn_wide.2 ?_
  have hmk := fun (wx : World) => gmake_map (P := Try.prog) 73 wx
  go_upto_region 3 with fail
  obtain ⟨w1, hw1⟩ : ∃ W, W = ((w.alloc (.cells #[.slice none 0 0] 32)).alloc (.map #[] 0)).alloc (.cells #[.map (some (w.heap.size + 1))] 73) := ⟨_, rfl⟩
  have ST := spr_start w w1 hw1
  rw [show w.heap.size + 1 + 1 = w.heap.size + 2 by omega, ← hw1]
  rw [HN.out] at ST ⊢
  obtain ⟨s1, s2, s3, s4, s5⟩ := ST
  have S1 := Lib.hid s1
  have S2 := Lib.hid s2
  have S3 := Lib.hid s3
  have S4 := Lib.hid s4
  have S5 := Lib.hid s5
  clear s1 s2 s3 s4 s5 hw1 hmk
  have EA := Lib.hid (fun (wx : World) => each_any A l.len k wx)
  go_wp2_with fail
  refine (EA.out _).mono ?_
  rintro e w2 ⟨rfl, hw2⟩
  have hbw : Below w1.heap.size w1 w2 := by rw [hw2]; exact gnew _ _
  have F1 : Hid (w2.heap[n + 3]? = some (.cells #[.slice A l.len k] 26 (0, 0))) := Lib.hid (by rw [hw2, ← S1.out]; exact heap_alloc_new _ _)
  have hsz : w2.heap.size = n + 4 := by rw [hw2]; simp [S1.out]
  have S2 := Lib.hid (S2.out.trans (hbw.mono (by have := S1.out; omega)))
  have S3 := Lib.hid ((hbw.block n (by have := S1.out; omega)).trans S3.out)
  have S4 := Lib.hid (S4.out.one (hbw.block (n + 1) (by have := S1.out; omega)))
  have S5 := Lib.hid ((hbw.block (n + 2) (by have := S1.out; omega)).trans S5.out)
  rw [S1.out]
  clear hw2 hbw EA S1
  go_wp2_with fail
  have hB2 : B ≤ n := by have h1 := HB.out; have h2 := HN.out; omega
  have hd1 : w2.heap.size + 1 = n + 5 := by omega
  have hd2 : w2.heap.size + 2 = n + 6 := by omega
  refine (wpIn_wide (n := 3)).1 (wpIn_rangeFunc_z (F := Fence.wide) rfl (by decide) (gf := 34) (lb := #[.pointer (some ⟨n + 3, 0, none⟩)]) rfl trivial (enters_of Try.func34 (by kernel_rfl) rfl)
    XS.length encG (LiesG XS B) (TG (n + 6)) (fun Z Z' A B => Z' = Z ∧ Below A.heap.size A B) RG (fun _ => rfl) (fun b => b = n + 5 ∨ b = n ∨ b = n + 1)
    (fun i Z W => SprI w B n (sprL (XS.take i)) Z W)
    (fun _ _ _ => False)
    ?hTl ?hIT ?hIr ?hIxr ?hRc ?h0 ?hseq ?hround ?hdone ?hstop)
  case hTl =>
    intro Z Z' a b ht c o hc ho
    exact (ht.mo.block c (Array.getElem?_eq_some_iff.1 ho).1 (by omega)).trans ho
  case hIT =>
    intro i Z Z' a b h ht
    exact h.t ht
  case hIr =>
    intro i Z W o h _
    rw [hd1]
    exact h.put o
  case hIxr =>
    intro c i W o h _
    exact h
  case hRc =>
    rintro i Z Z1 Z' W W1 W3 o o' h ⟨rfl, hb⟩ _ hr
    rw [hd1] at hr ⊢
    exact RG.comp h.zd h.ie.zlt hb hr
  case h0 =>
    intro W1 hb hs1
    rw [List.take_zero]
    refine ⟨⟨fun b hz => by rcases hz with rfl | rfl | rfl <;> omega, fun b hl hz => by rcases hz with rfl | rfl | rfl <;> omega, by omega, by omega⟩, .inl rfl, .inr (.inl rfl), .inr (.inr rfl), fun hz => by rcases hz with h | h | h <;> omega, S2.out.trans (hb.mono (by omega)), (hb.block _ (by omega)).trans S5.out, S4.out.one (hb.block _ (by omega)), _, (hb.block _ (by omega)).trans S3.out, World.ownsRow_nil _ _ _ _, fun b e => by simp [Value.ownBlock] at e⟩
  case hseq =>
    intro W1 J Jx hb hs1 hJ hY hJ0
    rw [hd1] at hY ⊢
    refine each_in 2 (by decide) B (n + 3) l A k XS HX.out hN hk (n + 6) (n + 5) J Jx hJ hY _ W1 (by omega) hJ0 ⟨fun b hz => by rcases hz with rfl | rfl | rfl <;> omega, fun b hl hz => by rcases hz with rfl | rfl | rfl <;> omega, by omega, by omega⟩ ((hb.block _ (by omega)).trans F1.out) ?_
    refine HS.out.keep (Nat.le_refl _) (fun b hl => (hb.block b (by omega)).trans (S2.out.block b (by omega)))
  case hround =>
    rintro i cs Z W hi h1 ⟨x, hx, hX⟩ hlt
    obtain ⟨Ag, kg, Ad, kd, As, ks, rfl, hT, _⟩ := hX
    have hnm : x.name.size ≤ 9223372036854775807 := by
      obtain ⟨_, _, _, _, _, _, _, _, h, _⟩ := sel_cells hT
      exact h
    have H1 := Lib.hid h1
    have HSN := Lib.hid (spr_next hx)
    have hln := spr_size XS i
    clear h1 hx hT
    have e0 : ∀ z : List Value, (#[9].zip (encG z)) = #[(9, .agg z.toArray)] := fun z => by simp [encG]
    simp only [e0]
    gi_wp2
    have hb9 := Lib.hid (gnew W (.cells #[.int .i64 x.kind, .string x.als, .string x.name, .slice Ag x.args.len kg, .slice Ad x.dirs.length kd, .string x.on, .slice As x.sels.len ks] 55))
    have i9 := Lib.hid (heap_alloc_new W (.cells #[.int .i64 x.kind, .string x.als, .string x.name, .slice Ag x.args.len kg, .slice Ad x.dirs.length kd, .string x.on, .slice As x.sels.len ks] 55))
    generalize W.alloc (.cells #[.int .i64 x.kind, .string x.als, .string x.name, .slice Ag x.args.len kg, .slice Ad x.dirs.length kd, .string x.on, .slice As x.sels.len ks] 55) = V0 at hb9 i9 ⊢
    refine ⟨Z, TG.of_below hb9.out, ⟨rfl, hb9.out⟩, H1.out.below hb9.out, fun o => ?_⟩
    have HP := Lib.hid ((H1.out.below hb9.out).put o)
    have hgx : W.heap.size ≠ n + 5 := by have := H1.out.ie.hb; omega
    have I9 := Lib.hid ((World.putObj_heap_other (w := V0) (r := n + 5) (o := o) hgx).trans i9.out)
    rw [hd1]
    have hgb : n + 6 ≤ W.heap.size := H1.out.ie.hb
    generalize V0.putObj (n + 5) o = V1 at HP I9 ⊢
    generalize W.heap.size = gb at I9 hgb ⊢
    clear hb9 i9 H1 hlt hgx
    obtain ⟨⟨y0, y1, y2, y3, y4, y5, y6⟩, _⟩ := gcells7 I9.out
    obtain ⟨q0, q1⟩ := gone_box HP.out.box
    obtain ⟨V, hV1, hV2, hV3⟩ := HP.out.out
    have HV1 := Lib.hid hV1
    have HV2 := Lib.hid hV2
    have HV3 := Lib.hid hV3
    clear hV1 hV2 hV3
    have hlk := HP.out.seen.look x.name hnm
    obtain ⟨out, hout⟩ : ∃ out, sprL (XS.take i) = out := ⟨_, rfl⟩
    rw [hout] at HP HSN hln hlk HV2
    obtain ⟨b8, g8⟩ : ∃ b, (x.kind == 1) = b := ⟨_, rfl⟩
    obtain ⟨b9, g9⟩ : ∃ b, inN out x.name = b := ⟨_, rfl⟩
    rw [g9] at hlk
    have HSN := Lib.hid (HSN.out.trans (by unfold addS; rw [g8, g9]))
    cases b8
    · gi_wp2
      refine ⟨⟨rfl, rfl⟩, Z, ?_, RG.same HP.out.ie⟩
      rw [HSN.out]
      exact HP.out
    · cases b9
      · obtain ⟨D, hD1, hD2⟩ := HP.out.seen
        have HD1 := Lib.hid hD1
        have HD2 := Lib.hid hD2
        have hkey := WideMaps.keyOf_string_mk (P := Try.prog) Try.underlying9 (show x.name.size ≤ maxLen by unfold maxLen; exact hnm)
        have hb1 : n + 6 ≤ V1.heap.size := HP.out.ie.hb
        have hgV : gb < V1.heap.size := (Array.getElem?_eq_some_iff.1 I9.out).1
        clear hD1 hD2
        gi_wp2_with (first
          | (gi_at_mapUpdate; go_loud (refine wpListIn_mapUpdate_own _ rfl _ _ _ 73 rfl 9 4 (Maps.string_keyed Try.underlying9) Try.underlying73 _ (n + 1) out.length D rfl HD1.out (by unfold maxLen; omega) _ _ _ rfl rfl hkey _ [] (plainElem_bool Try.underlying4 true) ?_; intro w8 hown8 hg8; obtain ⟨⟨z0, z1, z2, z3, z4, z5, z6⟩, _⟩ := gcells7 ((hg8.block gb hgV (fun e => by injection e; omega)).trans I9.out); obtain ⟨p0, p1⟩ := gone_box ((hg8.block n (by omega) (fun e => by injection e; omega)).trans HV1.out); have OW := Lib.hid (gown_one (w' := w8) HV2.out (fun b e => hg8.block b (HV2.out.lt b e).2 (fun e2 => by have := (HV2.out.lt b e).1; injection e2; omega))); have HO8 := Lib.hid hown8; have HG8 := Lib.hid hg8; clear hown8 hg8))
          | (gi_at_builtin; go_loud (refine wpListIn_append_own_at _ rfl _ _ 32 rfl (n + 6) 9 i0 z 1 16 Try.underlying32 hi0 hz0 hz1 hz2 hz3 (by decide) V out.length (out.map .string) rfl (OW.out.alloc _) _ 1 1 [.string x.name] rfl rfl (gone_news _ _ _ (by first | rfl | (simp; done))) (by intro u hu; simp at hu; subst hu; rfl) (by unfold maxLen; omega) (by omega) (by have := HG8.out.size; simp; omega) ?_; intro v' w' hown' hgrow _ hat; obtain ⟨g', cap', rfl⟩ := ownsRow_succ hown'; have hg3' := (hgrow.block n (by have := HG8.out.size; simp; omega) (fun e => by have := (HV2.out.lt n e.symm).1; omega)).trans ((Below.heap_alloc _ _ _ (by have := HG8.out.size; omega)).trans ((HG8.out.block n (by omega) (fun e => by injection e; omega)).trans HV1.out)); have HO' := Lib.hid hown'; have HGR := Lib.hid hgrow; have HAT := Lib.hid hat; obtain ⟨r0, r1⟩ := gone_box hg3'; clear hown' hgrow hat hg3')))
        have hm : SeenM w8 (n + 1) (out ++ [x.name]) := ⟨_, by rw [List.length_append, List.length_singleton]; exact HO8.out, HD2.out.put x.name⟩
        obtain ⟨h1, h2, h3⟩ := SprI.more HP.out HV1.out HV2.out HV3.out hm HG8.out HO'.out HGR.out rfl (by
          rcases HAT.out with e | e
          · exact .inl e.symm
          · exact .inr (by simpa [Value.ownBlock] using e))
        refine ⟨⟨h3 _ (by omega) (by omega) (by omega), h3 _ (by omega) (by omega) (by omega)⟩, _, ?_, h2⟩
        rw [HSN.out]
        exact h1
      · gi_wp2
        refine ⟨⟨rfl, rfl⟩, Z, ?_, RG.same HP.out.ie⟩
        rw [HSN.out]
        exact HP.out
  case hdone =>
    intro Z W h hK
    obtain ⟨V, h1, h2, _⟩ := h.out
    obtain ⟨q0, q1⟩ := gone_box h1
    have hl := Lib.hid h.low
    have H2 := Lib.hid h2
    clear h h1 h2
    go_wp2_with fail
    rw [List.take_length] at H2
    refine gpostM_mark (D := w2.heap.size) rfl hK (fun w' hb => results_tmp rfl _ _ _) (fun w' e1 e2 e3 e4 hb => ⟨V, rfl, gown_base (gown_one H2.out (fun b e => hb b (by have := (H2.out.lt b e).1; omega))) (by have := HN.out; omega), ?_⟩)
    rw [HN.out]
    exact ⟨e1.trans hl.out.os, e2.trans hl.out.tape, e3.trans hl.out.output, by rw [e4]; exact hl.out.size, fun b hb' => (hb b (by omega)).trans (hl.out.block b hb')⟩
  case hstop =>
    intro c i W hi h hK
    exact h.elim
end Go.Proofs.Ytohkimibphleaaa
