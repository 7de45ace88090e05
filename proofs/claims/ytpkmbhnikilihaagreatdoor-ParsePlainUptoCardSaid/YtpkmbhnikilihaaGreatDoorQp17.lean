/- What a walk over variables keeps: the map of those that were seen, the row of those that were found, in captured variables. -/
import Derived.Test.YtpkmbhnikilihaaGreatDoorQp16
import Derived.Maps.Own
import Derived.Maps.Views
namespace Go.Proofs.YtpkmbhnikilihaaGreatDoor
open Go.RowKit
theorem allTo_room : ∀ {l : VL} {j : Nat} {v : VT}, l.get j = some v → (allTo l j).length + sizeV v ≤ sizeL l
 | .nil, _, _, h => by simp [VL.get] at h
 | .cons u t, 0, v, h => by
   have : u = v := by simpa [VL.get] using h
   subst this
   rw [allTo_zero, sizeL]; simp
 | .cons u t, j + 1, v, h => by
   have := allTo_room (l := t) (j := j) (v := v) h
   have := all_len u
   rw [allTo, sizeL, List.length_append]; omega
theorem plain_bool_inv {P : Program} {e : TypeId} (he : P.underlying e = some .bool) {v : Value} {z : DataW Unit × List MemPlace} (h : plainElem P e v = some z) : ∃ x, v = .bool x ∧ z = (.lit (.bool x), []) := by
 unfold plainElem at h
 rw [he] at h
 cases v <;> simp at h
 exact ⟨_, rfl, h.symm⟩
def SeenD (D : DataW Unit) (out : List ByteArray) : Prop := Maps.IsMap D ∧ ∀ s : ByteArray, D.atKey (.string s.data.toList) (.lit (.bool false)) = .lit (.bool (hasN out s))
theorem SeenD.nil : SeenD (.map []) [] := ⟨Maps.isMap_empty, fun _ => rfl⟩
theorem SeenD.put {D : DataW Unit} {out : List ByteArray} (h : SeenD D out) (s : ByteArray) : SeenD (D.put (.string s.data.toList) (.lit (.bool true))) (out ++ [s]) := by
 refine ⟨h.1.put _ _, fun t => ?_⟩
 by_cases e : t.data.toList = s.data.toList
 · rw [e, Maps.atKey_put_same h.1 (by trivial)]
   have : t = s := ByteArray.ext (Array.toList_inj.1 e)
   subst this
   rw [show hasN (out ++ [t]) t = true from hasN_iff.2 (by simp)]
 · rw [Maps.atKey_put_other (fun e' => e (by injection e')), h.2 t]
   have : hasN (out ++ [s]) t = hasN out t := by
    unfold hasN
    rw [List.any_append]
    have : (s.data.toList == t.data.toList) = false := beq_eq_false_iff_ne.2 (fun e' => e e'.symm)
    simp only [List.any_cons, List.any_nil, this, Bool.or_false]
   rw [this]
def SeenAt (b : Nat) (w : World) (V : Value) (out : List ByteArray) : Prop :=
 w.heap[b + 1]? = some (.cells #[V] 51 (0, 0)) ∧ w.heap[b + 3]? = some (.cells #[.map (some (b + 2))] 114 (0, 0)) ∧
 w.heap[b + 4]? = some (.cells #[.func (.func 66) #[] #[.pointer (some ⟨b + 3, 0, none⟩), .pointer (some ⟨b + 1, 0, none⟩), .pointer (some ⟨b + 4, 0, none⟩)]] 115 (0, 0)) ∧
 w.ownsRow (b + 5) 9 1 V out.length (out.map .string) ∧ ∃ D : DataW Unit, w.ownsMap Tryz.prog 9 (plainElem Tryz.prog 4) (b + 2) out.length D ∧ SeenD D out
structure Kept3 (b : Nat) (w w' : World) (V V' : Value) : Prop where
 os : w'.os = w.os
 tape : w'.tape = w.tape
 output : w'.output = w.output
 size : w.heap.size ≤ w'.heap.size
 block : ∀ k, k < w.heap.size → k ≠ b + 1 → k ≠ b + 2 → V.ownBlock ≠ some k → w'.heap[k]? = w.heap[k]?
 own : ∀ k, V'.ownBlock = some k → V.ownBlock = some k ∨ w.heap.size ≤ k
theorem Kept3.of_below {b : Nat} {w w' : World} {V : Value} (h : Below w.heap.size w w') : Kept3 b w w' V V := ⟨h.os, h.tape, h.output, h.size, fun k hk _ _ _ => h.block k hk, fun _ hk => .inl hk⟩
theorem Kept3.trans {b : Nat} {w w1 w2 : World} {V V1 V2 : Value} (h : Kept3 b w w1 V V1) (h' : Kept3 b w1 w2 V1 V2) : Kept3 b w w2 V V2 := by
 have hs := h.size
 refine ⟨h'.os.trans h.os, h'.tape.trans h.tape, h'.output.trans h.output, Nat.le_trans hs h'.size, fun k hk h1 h2 h3 => ?_, fun k hk => ?_⟩
 · refine (h'.block k (by omega) h1 h2 (fun e => ?_)).trans (h.block k hk h1 h2 h3)
   rcases h.own k e with h | h
   · exact h3 h
   · omega
 · rcases h'.own k hk with h1 | h1
   · exact h.own k h1
   · exact .inr (Nat.le_trans hs h1)
theorem SeenAt.low {b : Nat} {w : World} {V : Value} {out : List ByteArray} (h : SeenAt b w V out) : b + 4 < w.heap.size := by
 have := h.2.2.1
 exact (Array.getElem?_eq_some_iff.1 this).1
theorem SeenAt.own {b : Nat} {w : World} {V : Value} {out : List ByteArray} (h : SeenAt b w V out) : ∀ k, V.ownBlock = some k → b + 5 ≤ k ∧ k < w.heap.size := h.2.2.2.1.lt
theorem Kept3.below {b B : Nat} {w w' : World} {V V' : Value} {out : List ByteArray} (h : Kept3 b w w' V V') (hs : SeenAt b w V out) (hB : B ≤ b + 1) : Below B w w' :=
 ⟨h.os, h.tape, h.output, h.size, fun k hk => h.block k (by have := hs.low; omega) (by omega) (by omega) (fun e => by have := (hs.own k e).1; omega)⟩
theorem SeenAt.below {b : Nat} {w w' : World} {V : Value} {out : List ByteArray} (h : SeenAt b w V out) (hb : Below w.heap.size w w') : SeenAt b w' V out := by
 have hl := h.low
 obtain ⟨h1, h2, h3, h4, D, h5, h6⟩ := h
 exact ⟨(hb.block _ (by omega)).trans h1, (hb.block _ (by omega)).trans h2, (hb.block _ (by omega)).trans h3, own_low h4 hb, D, h5.kept (row := none) ⟨hb.os, hb.tape, hb.output, hb.size, fun k hk _ => hb.block k hk⟩ (by simp), h6⟩
def RowN (b : Nat) (w : World) (V : Value) (B : Nat) (l : VL) (A : Option Addr) : Prop := ∀ (j : Nat) v, l.get j = some v → ∃ g o c0 c1 c2 c3 c4, A = some ⟨g, o, none⟩ ∧ g ≠ b + 1 ∧ g ≠ b + 2 ∧ V.ownBlock ≠ some g ∧ g < w.heap.size ∧ Five w g (o + j * 5) c0 c1 c2 c3 c4 ∧ VAt w B v c0 c1 c2 c3 c4
theorem RowX.seen {b B : Nat} {w w' : World} {V : Value} {out : List ByteArray} {l : VL} {A : Option Addr} (h : RowX w' w.heap.size B l A) (hs : SeenAt b w V out) (hB : B ≤ b) : RowN b w' V B l A := fun j v hv => by
 obtain ⟨g, o, c0, c1, c2, c3, c4, hA, hg, hlt, hf, hV⟩ := h j v hv
 have hl := hs.low
 exact ⟨g, o, c0, c1, c2, c3, c4, hA, by omega, by omega, fun e => by have := hs.own g e; omega, hlt, hf, hV⟩
theorem RowN.kept {b B : Nat} {w w' : World} {V V' : Value} {out : List ByteArray} {l : VL} {A : Option Addr} (h : RowN b w V B l A) (hs : SeenAt b w V out) (hk : Kept3 b w w' V V') (hB : B ≤ b) : RowN b w' V' B l A := fun j v hv => by
 obtain ⟨g, o, c0, c1, c2, c3, c4, hA, g1, g2, g3, hlt, hf, hV⟩ := h j v hv
 have hgk := hk.block g hlt g1 g2 g3
 have hc := fun i => World.cell?_of_block (a := ⟨g, i, none⟩) (w := w) (w' := w') hgk
 refine ⟨g, o, c0, c1, c2, c3, c4, hA, g1, g2, fun e => ?_, Nat.lt_of_lt_of_le hlt hk.size, ⟨(hc _).trans hf.1, (hc _).trans hf.2.1, (hc _).trans hf.2.2.1, (hc _).trans hf.2.2.2.1, (hc _).trans hf.2.2.2.2⟩, VAt.below (hk.below hs (by omega)) _ _ _ _ _ _ hV⟩
 rcases hk.own g e with h | h
 · exact g3 h
 · omega
theorem one_cell {w : World} {g : Nat} {u : Value} {t : TypeId} (h : w.heap[g]? = some (.cells #[u] t (0, 0))) : w.cell? ⟨g, 0, none⟩ = some u ∧ w.frozen? ⟨g, 0, none⟩ = false := by
 constructor
 · simp only [World.cell?, h]; rfl
 · simp [World.frozen?, h]
set_option maxRecDepth 100000 in
theorem zero_bool (w : World) : (zeroValue 4).run Tryz.prog w = .ok (.bool false) w := by rfl
set_option maxRecDepth 100000 in
theorem SeenAt.look {b : Nat} {w : World} {V : Value} {out : List ByteArray} (h : SeenAt b w V out) (s : ByteArray) (hs : s.size ≤ maxLen) : (Instr.lookup 114 (.map (some (b + 2))) (.string s) false).run Tryz.prog w = .ok (.bool (hasN out s)) w := by
 obtain ⟨_, _, _, _, D, hm, hD⟩ := h
 have hkey := WideMaps.keyOf_string_mk (P := Tryz.prog) Tryz.underlying9 hs
 obtain ⟨v, ps, hrun, hv⟩ := hm.lookup (Maps.string_keyed Tryz.underlying9) Tryz.underlying114 (zero_bool w) (plainElem_bool Tryz.underlying4 false) hkey
 obtain ⟨x, rfl, hx⟩ := plain_bool_inv Tryz.underlying4 hv
 have e : x = hasN out s := by
  have e1 := congrArg Prod.fst hx
  rw [hD.2 s] at e1
  injection e1 with e1
  injection e1 with e1
  exact e1.symm
 rw [hrun, e]
theorem SeenAt.more {b : Nat} {w w1 w2 : World} {V V2 : Value} {out : List ByteArray} {s : ByteArray} {D : DataW Unit} {o : Obj} (h : SeenAt b w V out) (hD : SeenD D out)
   (hm : w1.ownsMap Tryz.prog 9 (plainElem Tryz.prog 4) (b + 2) (out.length + 1) (D.put (.string s.data.toList) (.lit (.bool true)))) (hg1 : w.grownBy w1 (some (b + 2)))
   (hown : w2.ownsRow (b + 5) 9 1 V2 (out.length + 1) (out.map .string ++ [.string s])) (hg2 : (w1.alloc o).grownBy w2 V.ownBlock) (hV2 : ∀ k, V2.ownBlock = some k → V.ownBlock = some k ∨ w1.heap.size ≤ k) :
   SeenAt b (w2.setCell ⟨b + 1, 0, none⟩ V2) V2 (out ++ [s]) ∧ Kept3 b w (w2.setCell ⟨b + 1, 0, none⟩ V2) V V2 := by
 have hl := h.low
 have ho := h.own
 have hs1 := hg1.size
 have hs2 := hg2.size
 have hal : (w1.alloc o).heap.size = w1.heap.size + 1 := by simp
 obtain ⟨h1, h2, h3, h4, _⟩ := h
 have hk : ∀ k, k < w.heap.size → k ≠ b + 2 → V.ownBlock ≠ some k → w2.heap[k]? = w.heap[k]? := fun k hk e2 e3 =>
   (hg2.block k (by omega) (fun e => e3 e.symm)).trans ((Below.heap_alloc _ _ _ (by omega)).trans (hg1.block k hk (fun e => e2 (by injection e))))
 have hV : ∀ k, k ≤ b + 4 → V.ownBlock ≠ some k := fun k hk e => by have := (ho k e).1; omega
 have hset : ∀ k, k ≠ b + 1 → (w2.setCell ⟨b + 1, 0, none⟩ V2).heap[k]? = w2.heap[k]? := fun k hk => Below.heap_setCell _ _ _ _ hk
 have hV2' : V2.ownBlock ≠ some (b + 1) := fun e => by have := (hown.lt _ e).1; omega
 have hset2 : w2.grownBy (w2.setCell ⟨b + 1, 0, none⟩ V2) (some (b + 1)) := ⟨rfl, rfl, rfl, by simp [World.setCell], fun k _ hk => Below.heap_setCell _ _ _ _ (fun e => hk (by rw [e]))⟩
 refine ⟨⟨?_, ?_, ?_, ?_, D.put (.string s.data.toList) (.lit (.bool true)), ?_, hD.put s⟩, ?_⟩
 · exact heap_setCell_same _ (b + 1) 0 _ _ _ ((hk (b + 1) (by omega) (by omega) (hV _ (by omega))).trans h1)
 · exact (hset _ (by omega)).trans ((hk _ (by omega) (by omega) (hV _ (by omega))).trans h2)
 · exact (hset _ (by omega)).trans ((hk _ (by omega) (by omega) (hV _ (by omega))).trans h3)
 · rw [List.length_append, List.map_append]
   exact hown.kept hset2 (.inr hV2')
 · rw [List.length_append]
   exact ((hm.alloc o).kept hg2 (fun e => hV (b + 2) (by omega) e.symm)).kept hset2 (by intro e; injection e; omega)
 · refine ⟨?_, ?_, ?_, ?_, fun k hkk e1 e2 e3 => (hset k e1).trans (hk k hkk e2 e3), fun k e => ?_⟩
   · exact hg2.os.trans hg1.os
   · exact hg2.tape.trans hg1.tape
   · exact hg2.output.trans hg1.output
   · have := hset2.size; omega
   · rcases hV2 k e with h | h
     · exact .inl h
     · exact .inr (by omega)
theorem info_txt : (Tryz.prog.info? 9).map (fun i => (i.zero, i.size, i.bytes)) = some (some (.string ⟨#[]⟩), 1, 16) := by kernel_rfl
theorem info_parts1 {t : TypeId} {z : Value} {s b : Nat} (h : (Tryz.prog.info? t).map (fun i => (i.zero, i.size, i.bytes)) = some (some z, s, b)) : ∃ i, Tryz.prog.info? t = some i ∧ i.zero = some z ∧ i.size = s ∧ i.bytes = b := by
 cases hi : Tryz.prog.info? t with
 | none => rw [hi] at h; cases h
 | some i => rw [hi] at h; simp at h; exact ⟨i, rfl, h.1, h.2.1, h.2.2⟩
def VisC (v : VT) : Prop := ∀ (c0 c1 c2 c3 c4 : Value) (w : World) (B b : Nat) (V : Value) (out : List ByteArray), B ≤ b → VAt w B v c0 c1 c2 c3 c4 → SeenAt b w V out → out.length + sizeV v ≤ 20000 →
 Calls Tryz.prog 66 #[.agg #[c0, c1, c2, c3, c4], .pointer (some ⟨b + 3, 0, none⟩), .pointer (some ⟨b + 1, 0, none⟩), .pointer (some ⟨b + 4, 0, none⟩)] w fun e w' => e = .returned (.tuple #[]) ∧ ∃ V', SeenAt b w' V' (varsV v out) ∧ Kept3 b w w' V V'
def selfV : VT → List ByteArray
 | .mk k _ s _ _ => if k = 8 then [s] else []
theorem all_self (v : VT) : allV v = selfV v ++ allL v.kids := by
 have h := all_kids v
 obtain ⟨k, n, s, l, m⟩ := v
 exact h
theorem self_len (v : VT) : (selfV v).length ≤ 1 := by
 obtain ⟨k, n, s, l, m⟩ := v
 rw [selfV]
 split <;> simp
def outAt (v : VT) (out : List ByteArray) (j : Nat) : List ByteArray := (allTo v.kids j).foldl addN ((selfV v).foldl addN out)
theorem outAt_all (v : VT) (out : List ByteArray) : outAt v out v.kids.len = varsV v out := by
 unfold outAt varsV
 rw [allTo_all, all_self v, List.foldl_append]
theorem outAt_next {v x : VT} {j : Nat} (h : v.kids.get j = some x) (out : List ByteArray) : outAt v out (j + 1) = varsV x (outAt v out j) := varsL_snoc h _
theorem outAt_room {v x : VT} {j : Nat} (h : v.kids.get j = some x) {out : List ByteArray} (hr : out.length + sizeV v ≤ 20000) : (outAt v out j).length + sizeV x ≤ 20000 := by
 have h1 := allTo_room h
 have h2 := size_kids v
 have h3 := adds_len (allTo v.kids j) ((selfV v).foldl addN out)
 have h4 := adds_len (selfV v) out
 have h5 := self_len v
 unfold outAt
 omega
theorem outAt_zero_no {k n : Int} {s : ByteArray} {l : VL} {m : VM} {out : List ByteArray} (h : ¬ k = 8 ∨ hasN out s = true) : outAt (.mk k n s l m) out 0 = out := by
 unfold outAt
 rw [allTo_zero]
 show (selfV (.mk k n s l m)).foldl addN out = out
 rw [selfV]
 rcases h with h | h
 · rw [if_neg h]; rfl
 · split
   · show addN out s = out
     rw [addN, if_pos h]
   · rfl
theorem outAt_zero_yes {n : Int} {s : ByteArray} {l : VL} {m : VM} {out : List ByteArray} (h : hasN out s = false) : outAt (.mk 8 n s l m) out 0 = out ++ [s] := by
 unfold outAt
 rw [allTo_zero]
 show (selfV (.mk 8 n s l m)).foldl addN out = out ++ [s]
 rw [selfV, if_pos rfl]
 show addN out s = out ++ [s]
 rw [addN, if_neg (by rw [h]; decide)]
theorem box_five {w : World} {g : Nat} {c0 c1 c2 c3 c4 : Value} {t : TypeId} (h : w.heap[g]? = some (.cells #[c0, c1, c2, c3, c4] t (0, 0))) : w.cell? ⟨g, 0, none⟩ = some c0 ∧ w.cell? ⟨g, 1, none⟩ = some c1 ∧ w.cell? ⟨g, 2, none⟩ = some c2 ∧ w.cell? ⟨g, 3, none⟩ = some c3 ∧ w.cell? ⟨g, 4, none⟩ = some c4 := by
 refine ⟨?_, ?_, ?_, ?_, ?_⟩ <;> (simp only [World.cell?, h]; rfl)
theorem txt_new (w : World) (s : ByteArray) (t : TypeId) {g : Nat} (hg : g = w.heap.size) : ∀ (j : Nat) u, [Value.string s][j]? = some u → (w.alloc (.cells #[.string s] t)).cell? ((⟨g, 0, none⟩ : Addr).add j) = some u := by
 subst hg
 intro j u hu
 rw [add_at, Nat.zero_add]
 match j, hu with
 | 0, hu => cases hu; rw [World.cell?_alloc_at _ _ _ _ rfl]; rfl
theorem own_or {V : Value} {g H n c k h1 : Nat} (e : (Value.slice (some ⟨g, 0, none⟩) n c).ownBlock = some k) (h : V.ownBlock = some g ∨ g = H) (hH : h1 ≤ H) : V.ownBlock = some k ∨ h1 ≤ k := by
 have e' : some g = some k := e
 injection e' with e'
 subst e'
 rcases h with h | h
 · exact .inl h
 · exact .inr (by omega)
theorem vis_in {b B : Nat} {w wc : World} {V Vc : Value} {U : VT} {out out0 : List ByteArray} {c0 c1 c2 c3 c4 : Value} (HW : WithinX U) (hB : B ≤ b) (hv : VAt w B U c0 c1 c2 c3 c4) (hs : SeenAt b w V out) (hc : SeenAt b wc Vc out0 ∧ Kept3 b w wc V Vc) :
  Calls Tryz.prog 67 #[.agg #[c0, c1, c2, c3, c4]] wc fun e w' => ∃ A c, e = .returned (.slice A U.kids.len c) ∧ SeenAt b w' Vc out0 ∧ Kept3 b w w' V Vc ∧ RowN b w' Vc B U.kids A := by
 obtain ⟨hc, hk⟩ := hc
 refine (HW _ _ _ _ _ wc B (by have := hc.low; omega) (VAt.below (hk.below hs (by omega)) _ _ _ _ _ _ hv)).mono ?_
 rintro e w' ⟨A, c, rfl, hr, hb⟩
 exact ⟨A, c, rfl, hc.below hb, hk.trans (Kept3.of_below hb), hr.seen hc hB⟩
theorem vis_go {b B : Nat} {w : World} {V : Value} {x : VT} {out : List ByteArray} {d0 d1 d2 d3 d4 : Value} {o : Obj} (hB : B ≤ b) (hC : VisC x) (hs : SeenAt b w V out) (hv : VAt w B x d0 d1 d2 d3 d4) (hr : out.length + sizeV x ≤ 20000) :
  Calls Tryz.prog 66 #[.agg #[d0, d1, d2, d3, d4], .pointer (some ⟨b + 3, 0, none⟩), .pointer (some ⟨b + 1, 0, none⟩), .pointer (some ⟨b + 4, 0, none⟩)] (w.alloc o) fun e w' => e = .returned (.tuple #[]) ∧ ∃ V', SeenAt b w' V' (varsV x out) ∧ Kept3 b w w' V V' := by
 have hb := (Below.refl w.heap.size w).alloc (Nat.le_refl _) o
 have hl := hs.low
 refine (hC _ _ _ _ _ (w.alloc o) B b V out hB (VAt.below (hb.mono (by omega)) _ _ _ _ _ _ hv) (hs.below hb) hr).mono ?_
 rintro e w' ⟨rfl, V', h1, h2⟩
 exact ⟨rfl, V', h1, (Kept3.of_below hb).trans h2⟩
set_option maxRecDepth 100000 in
set_option maxHeartbeats 4000000 in
theorem vis_step (N : Nat) (hN : N + 1 ≤ 9000) (H : ∀ u, sizeV u ≤ N → VisC u) : ∀ u, sizeV u ≤ N + 1 → VisC u := by
 intro u hu c0 c1 c2 c3 c4 w B b V out hB hv hs hr
 have HS := Hd H
 have hW := within_x u (by omega)
 have hkg := Hd (fun (x : VT) (j : Nat) (h : u.kids.get j = some x) => kids_get_size h)
 have hnx := Hd (fun (x : VT) (j : Nat) (h : u.kids.get j = some x) => outAt_next h out)
 have hrm := Hd (fun (x : VT) (j : Nat) (h : u.kids.get j = some x) => outAt_room h hr)
 have hal := Hd (outAt_all u out)
 have hv0 := Hd hv
 have HB0 := Hd hB
 have hks := Hd (size_kids u)
 have hls := Hd (len_size u.kids)
 have hol : out.length ≤ 20000 := by omega
 obtain ⟨k, n, s, l, m⟩ := u
 have hno := Hd (fun h => outAt_zero_no (k := k) (n := n) (s := s) (l := l) (m := m) (out := out) h)
 have hyes : Hid (k = 8 → hasN out s = false → outAt (.mk k n s l m) out 0 = out ++ [s]) := Hd (fun e h => by subst e; exact outAt_zero_yes h)
 generalize hU : VT.mk k n s l m = U at *
 have hv' := hv
 rw [← hU] at hv'
 unfold VAt at hv'
 obtain ⟨rfl, rfl, rfl, hsl, ⟨A, c, rfl, hl, hL⟩, A', c', rfl, hm, hM⟩ := hv'
 have HW := Hd hW
 have HU := Hd hu
 have hb0 := Hd (fun o => (Below.refl w.heap.size w).alloc (Nat.le_refl _) o)
 have hS0 := Hd (fun o => hs.below (hb0.out o))
 have hlow := hs.low
 have hown := Hd hs.own
 obtain ⟨x, hx⟩ : ∃ x, hasN out s = x := ⟨_, rfl⟩
 have lk := fun o => (hS0.out o).look s (by unfold maxLen; omega)
 rw [hx] at lk
 have d1 : ∀ o, (w.alloc o).cell? ⟨b + 1, 0, none⟩ = some V := fun o => (one_cell (hS0.out o).1).1
 have d3 : ∀ o, (w.alloc o).cell? ⟨b + 3, 0, none⟩ = some (.map (some (b + 2))) := fun o => (one_cell (hS0.out o).2.1).1
 have HS' := Hd hs
 obtain ⟨D, hmD, hD⟩ := hs.2.2.2.2
 have HD := Hd hD
 have HMD := Hd (fun o => hmD.alloc o)
 have HMAX : out.length < maxLen := by unfold maxLen; omega
 obtain ⟨i0, hi, hz0, hz1, hz2⟩ := info_parts1 info_txt
 clear H hB hv hW hL hM hu hU hs hr hD hmD
 have hkey := WideMaps.keyOf_string_mk (P := Tryz.prog) Tryz.underlying9 (s := s) (by unfold maxLen; omega)
 obtain ⟨n8, h8⟩ : ∃ n, (k == 8) = n := ⟨_, rfl⟩
 cases n8
 have hout := Hd (hno.out (.inl (by simpa using h8)))
 go_enter Tryz.func66, Tryz.ntmps66
 go_wp2_with fail
 refine (vis_in HW.out HB0.out hv0.out HS'.out ⟨hout.out.symm ▸ hS0.out _, Kept3.of_below (hb0.out _)⟩).mono ?_
 rotate_left
 cases x
 have hout := Hd (hyes.out (by simpa using h8) hx)
 obtain rfl : k = 8 := by simpa using h8
 clear h8
 go_enter Tryz.func66, Tryz.ntmps66
 go_wp2_with (first
  | (at_mapUpdate; refine wpList_mapUpdate_own _ rfl _ _ _ 114 rfl 9 4 (Maps.string_keyed Tryz.underlying9) Tryz.underlying114 _ (b + 2) out.length D rfl (HMD.out _) HMAX _ _ _ rfl rfl hkey (.lit (.bool true)) [] (plainElem_bool Tryz.underlying4 true) ?_; intro w1 hm1 hg1; have x1 := (hg1.block w.heap.size (by simp) (fun e => by injection e; omega)).trans (heap_alloc_new _ _); obtain ⟨p0, p1, p2, p3, p4⟩ := box_five x1; have y1 := (hg1.block (b + 1) (by simp; omega) (fun e => by injection e; omega)).trans (hS0.out _).1; obtain ⟨q1, q2⟩ := one_cell y1; have HM1 := Hd hm1; have HG1 := Hd hg1; have hs1 := hg1.size; have HR1 := Hd (fun o => ((hS0.out _).2.2.2.1.kept hg1 (.inr (fun e => by have := (hown.out _ e).1; omega))).alloc o); have HX1 := Hd x1; have HY1 := Hd y1; clear hm1 hg1 x1 y1)
  | (at_builtin; refine wpList_append_lies _ rfl _ _ 51 rfl (b + 5) 9 i0 (.string ⟨#[]⟩) 1 16 Tryz.underlying51 hi hz0 hz1 hz2 rfl (by decide) V out.length (out.map .string) rfl (HR1.out _) _ 1 1 [.string s] rfl rfl (txt_new _ _ _ rfl) (by intro u hu; simp at hu; subst hu; rfl) (by decide) (by unfold maxLen; omega) (by omega) (by simp at hs1; simp; omega) _ rfl ?_; intro g2 cap2 w2 hown2 hg2 hat2 hlt2; have x2 := (hg2.block w.heap.size (by simp at hs1; simp; omega) (fun e => by have := hown.out _ e.symm; omega)).trans ((Below.heap_alloc _ _ _ (by simp at hs1; omega)).trans HX1.out); obtain ⟨r0, r1, r2, r3, r4⟩ := box_five x2; have y2 := (hg2.block (b + 1) (by simp at hs1; simp; omega) (fun e => by have := hown.out _ e.symm; omega)).trans ((Below.heap_alloc _ _ _ (by simp at hs1; omega)).trans HY1.out); obtain ⟨u1, u2⟩ := one_cell y2; have HM := Hd ((hS0.out _).more HD.out HM1.out HG1.out hown2 hg2 (fun k e => own_or e hat2 (by simp))); clear x2 y2 hown2 hg2 hat2))
 refine (vis_in HW.out HB0.out hv0.out HS'.out ⟨hout.out.symm ▸ HM.out.1, (Kept3.of_below (hb0.out _)).trans HM.out.2⟩).mono ?_
 rotate_left
 have hout := Hd (hno.out (.inr hx))
 obtain rfl : k = 8 := by simpa using h8
 clear h8
 go_enter Tryz.func66, Tryz.ntmps66
 go_wp2_with fail
 refine (vis_in HW.out HB0.out hv0.out HS'.out ⟨hout.out.symm ▸ hS0.out _, Kept3.of_below (hb0.out _)⟩).mono ?_
 rotate_left
 all_goals
  rintro e w3 ⟨A1, c1', rfl, h1, h2, h3⟩
  have H3 := Hd (And.intro h1 (And.intro h2 h3))
  clear h1 h2 h3
  go_wp2_with fail
  go_loopg [28] U.kids.len (fun g i wx => ∃ q : Nat, q + g = U.kids.len ∧ i = .int .i64 q ∧ Aside (∃ Vx, SeenAt b wx Vx (outAt U out q) ∧ Kept3 b w wx V Vx ∧ RowN b wx Vx B U.kids A1))
  case atStart => exact ⟨0, by omega, rfl, vaside ⟨_, H3.out.1, H3.out.2.1, H3.out.2.2⟩⟩
  case round =>
   obtain ⟨q, hq, rfl, HA⟩ := hrel
   obtain ⟨Vx, hsx, hkx, hrx⟩ := HA.out
   have HSX := Hd hsx
   have HKX := Hd hkx
   have HRX := Hd hrx
   clear hsx hkx hrx H3 HA
   cases gk with
   | zero =>
     obtain rfl : q = U.kids.len := by omega
     go_wp2_with fail
     go_end0
     exact ⟨rfl, Vx, by rw [← hal.out]; exact HSX.out, HKX.out⟩
   | succ g =>
     have hqn : q < U.kids.len := by omega
     have hq9 : q < 9000 := by have h1 := hks.out; have h2 := hls.out; have h3 := HU.out; omega
     have hqn' : (q : Int) < (U.kids.len : Int) := by omega
     obtain ⟨y, hy⟩ := VL.get_lt hqn
     have hys := hkg.out y q hy
     have hnx' := Hd (hnx.out y q hy)
     obtain ⟨gb, o, d0, d1, d2, d3, d4, rfl, _, _, _, hblt, hF, hV⟩ := HRX.out q y hy
     have C := Hd (fun o => vis_go (o := o) HB0.out (HS.out y (by have := HU.out; omega)) HSX.out hV (hrm.out y q hy))
     have hpv := fun o => (one_cell ((HSX.out.below ((Below.refl _ _).alloc (Nat.le_refl _) o)).2.2.1)).1
     obtain ⟨yk, yn, ys, yl, ym⟩ := y
     have hV' := hV
     unfold VAt at hV'
     obtain ⟨rfl, rfl, rfl, _, ⟨A3, c3', rfl, _, _⟩, A4, c4', rfl, _, _⟩ := hV'
     obtain ⟨f0, f1, f2, f3, f4⟩ := hF
     clear hV hy hys
     go_wp2_with fail
     refine (C.out _).mono ?_
     rintro e w4 ⟨rfl, V4, h1, h2⟩
     have H4 := Hd (And.intro h1 h2)
     clear h1 h2 C f0 f1 f2 f3 f4 hpv
     go_wp2_with fail
     go_roundg g
     case measure => omega
     case rel => exact ⟨q + 1, by omega, by go_num, vaside ⟨V4, by rw [hnx'.out]; exact H4.out.1, HKX.out.trans H4.out.2, HRX.out.kept HSX.out H4.out.2 HB0.out⟩⟩
theorem vis_all : ∀ N, N ≤ 9000 → ∀ u, sizeV u ≤ N → VisC u
 | 0, _, u, h => by cases u; rw [sizeV] at h; omega
 | N + 1, hN, u, h => vis_step N hN (vis_all N (by omega)) u h
theorem vis_any (u : VT) (h : sizeV u ≤ 9000) : VisC u := vis_all 9000 (Nat.le_refl _) u h
theorem seen_start (w : World) (box : Obj) : SeenAt w.heap.size (((((w.alloc box).alloc (.cells #[.slice none 0 0] 51)).alloc (.map #[] 0)).alloc (.cells #[.map (some (w.heap.size + 2))] 114)).alloc (.cells #[.func (.func 66) #[] #[.pointer (some ⟨w.heap.size + 3, 0, none⟩), .pointer (some ⟨w.heap.size + 1, 0, none⟩), .pointer (some ⟨w.heap.size + 4, 0, none⟩)]] 115)) (.slice none 0 0) [] := by
 have e0 : (w.alloc box).heap.size = w.heap.size + 1 := by simp
 have e1 : ((w.alloc box).alloc (.cells #[.slice none 0 0] 51)).heap.size = w.heap.size + 2 := by simp
 have e2 : (((w.alloc box).alloc (.cells #[.slice none 0 0] 51)).alloc (.map #[] 0)).heap.size = w.heap.size + 3 := by simp
 have e3 : ((((w.alloc box).alloc (.cells #[.slice none 0 0] 51)).alloc (.map #[] 0)).alloc (.cells #[.map (some (w.heap.size + 2))] 114)).heap.size = w.heap.size + 4 := by simp
 refine ⟨?_, ?_, ?_, World.ownsRow_nil _ _ _ _, .map [], ?_, SeenD.nil⟩
 · refine (Below.heap_alloc _ _ _ (by omega)).trans ((Below.heap_alloc _ _ _ (by omega)).trans ((Below.heap_alloc _ _ _ (by omega)).trans ?_))
   have := heap_alloc_new (w.alloc box) (.cells #[.slice none 0 0] 51)
   rwa [e0] at this
 · refine (Below.heap_alloc _ _ _ (by omega)).trans ?_
   have := heap_alloc_new (((w.alloc box).alloc (.cells #[.slice none 0 0] 51)).alloc (.map #[] 0)) (.cells #[.map (some (w.heap.size + 2))] 114)
   rwa [e2] at this
 · have := heap_alloc_new ((((w.alloc box).alloc (.cells #[.slice none 0 0] 51)).alloc (.map #[] 0)).alloc (.cells #[.map (some (w.heap.size + 2))] 114)) (.cells #[.func (.func 66) #[] #[.pointer (some ⟨w.heap.size + 3, 0, none⟩), .pointer (some ⟨w.heap.size + 1, 0, none⟩), .pointer (some ⟨w.heap.size + 4, 0, none⟩)]] 115)
   rwa [e3] at this
 · have := World.ownsMap_made ((w.alloc box).alloc (.cells #[.slice none 0 0] 51)) Tryz.prog 9 (plainElem (H := Unit) Tryz.prog 4)
   rw [e1] at this
   exact (this.alloc _).alloc _
theorem own_mono {w : World} {B B' : Nat} {e : TypeId} {k : Nat} {v : Value} {n : Nat} {xs : List Value} (h : w.ownsRow B e k v n xs) (hb : B' ≤ B) : w.ownsRow B' e k v n xs := by
 obtain ⟨h0, h1⟩ := h
 refine ⟨h0, ?_⟩
 rcases h1 with h1 | ⟨g, cap, cur, a1, a2, a3⟩
 · exact .inl h1
 · exact .inr ⟨g, cap, cur, a1, Nat.le_trans hb a2, a3⟩
theorem start_below (w : World) (o1 o2 o3 o4 o5 : Obj) : Below w.heap.size w (((((w.alloc o1).alloc o2).alloc o3).alloc o4).alloc o5) := by
 have h1 := (Below.refl w.heap.size w).alloc (Nat.le_refl _) o1
 have h2 := h1.alloc h1.size o2
 have h3 := h2.alloc h2.size o3
 have h4 := h3.alloc h3.size o4
 exact h4.alloc h4.size o5
set_option maxRecDepth 100000 in
set_option maxHeartbeats 4000000 in
theorem vars_any (u : VT) (hz : sizeV u ≤ 9000) (c0 c1 c2 c3 c4 : Value) (w : World) (B : Nat) (hB : B ≤ w.heap.size) (hv : VAt w B u c0 c1 c2 c3 c4) :
  Calls Tryz.prog 26 #[.agg #[c0, c1, c2, c3, c4]] w fun e w' => ∃ V, e = .returned V ∧ w'.ownsRow w.heap.size 9 1 V (varsV u []).length ((varsV u []).map .string) ∧ Below w.heap.size w w' := by
 have HV := Hd hv
 have C := Hd (vis_any u hz)
 have hmf : ∀ (fn : Fn) (first cap : Array Value) (w : World), (Instr.makeFunc fn first cap).run Tryz.prog w = .ok (.func fn first cap) w := fun _ _ _ _ => rfl
 have hmm := @run_makeMap Tryz.prog
 obtain ⟨k, n, s, l, m⟩ := u
 generalize hU : VT.mk k n s l m = U at *
 rw [← hU] at hv
 unfold VAt at hv
 obtain ⟨rfl, rfl, rfl, hsl, ⟨A, c, rfl, hl, hL⟩, A', c', rfl, hm, hM⟩ := hv
 have hz0 := Hd hz
 clear hL hM hU hz
 go_enter Tryz.func26, Tryz.ntmps26
 go_wp2_with fail
 refine (C.out _ _ _ _ _ _ B w.heap.size (.slice none 0 0) [] hB (VAt.below ((start_below w _ _ _ _ _).mono hB) _ _ _ _ _ _ HV.out) (seen_start w _) (by simp; have := hz0.out; omega)).mono ?_
 rintro e w1 ⟨rfl, V, h1, h2⟩
 have hb := Hd ((start_below w _ _ _ _ _).trans (h2.below (seen_start w _) (Nat.le_succ _)))
 obtain ⟨y0, y1⟩ := one_cell h1.1
 have H1 := Hd h1
 clear h1 h2
 go_wp2_with fail
 go_ret
 exact ⟨V, rfl, own_mono H1.out.2.2.2.1 (by omega), hb.out⟩
def Tells (f : FuncId) (args : Array Value) (w : World) (P : Prop) : Prop := Calls Tryz.prog f args w fun e w' => (∃ b, e = .returned (.bool b) ∧ (b = true ↔ P)) ∧ Below w.heap.size w w'
theorem Tells.yes {f : FuncId} {args : Array Value} {w : World} {P : Prop} (h : Tells f args w P) (hp : P) : Calls Tryz.prog f args w fun e w' => e = .returned (.bool true) ∧ Below w.heap.size w w' := by
 refine Calls.mono h ?_
 rintro e w' ⟨⟨b, rfl, hb⟩, hw⟩
 rw [hb.2 hp]
 exact ⟨rfl, hw⟩
theorem Tells.no {f : FuncId} {args : Array Value} {w : World} {P : Prop} (h : Tells f args w P) (hp : ¬ P) : Calls Tryz.prog f args w fun e w' => e = .returned (.bool false) ∧ Below w.heap.size w w' := by
 refine Calls.mono h ?_
 rintro e w' ⟨⟨b, rfl, hb⟩, hw⟩
 have : b = false := by cases b; rfl; exact absurd (hb.1 rfl) hp
 rw [this]
 exact ⟨rfl, hw⟩
theorem tells_true {P : Prop} {w w' : World} (hp : P) (hw : Below w.heap.size w w') : (∃ b, Ending.returned (.bool true) = .returned (.bool b) ∧ (b = true ↔ P)) ∧ Below w.heap.size w w' := ⟨⟨true, rfl, ⟨fun _ => hp, fun _ => rfl⟩⟩, hw⟩
theorem tells_false {P : Prop} {w w' : World} (hp : ¬ P) (hw : Below w.heap.size w w') : (∃ b, Ending.returned (.bool false) = .returned (.bool b) ∧ (b = true ↔ P)) ∧ Below w.heap.size w w' := ⟨⟨false, rfl, ⟨fun e => by simp at e, fun e => absurd e hp⟩⟩, hw⟩
def SamC (u : VT) : Prop := ∀ (v : VT) (c0 c1 c2 c3 c4 d0 d1 d2 d3 d4 : Value) (w : World) (B : Nat), B ≤ w.heap.size → VAt w B u c0 c1 c2 c3 c4 → VAt w B v d0 d1 d2 d3 d4 → Tells 25 #[.agg #[c0, c1, c2, c3, c4], .agg #[d0, d1, d2, d3, d4]] w (u = v)
theorem enters_same : ∀ args w, (callFunc 25 args).run Tryz.prog w = .ok (.enter 25 args) w := Go.Proofs.enters_of Tryz.func25 (by kernel_rfl) rfl
set_option maxRecDepth 100000 in
set_option maxHeartbeats 8000000 in
theorem eqf_list (N : Nat) (H : ∀ u, sizeV u ≤ N → SamC u) (l : VL) (hlN : sizeL l ≤ N) (l' : VL) (A A' : Option Addr) (c c' : Nat) (w : World) (B : Nat) (hB : B ≤ w.heap.size) (hl : l.len ≤ 9223372036854775807) (h1 : LAt w B l A 0) (h2 : LAt w B l' A' 0) :
   Tells 63 #[.slice A l.len c, .slice A' l'.len c', .func (.func 25) #[] #[]] w (l = l') := by
 have HS := Hd H
 have HB0 := Hd hB
 have H1 := Hd h1
 have H2 := Hd h2
 have he := enters_same
 clear H hB h1 h2
 unfold Tells
 by_cases hlen : l.len = l'.len
 · rw [← hlen]
   have HLN := Hd hlen
   clear hlen
   go_enter Tryz.func63, Tryz.ntmps63
   go_wp2_with fail
   go_loopg [17] l.len (fun g i wx => ∃ q : Nat, q + g = l.len ∧ i = .int .i64 q ∧ Below w.heap.size w wx ∧ Aside (AgreeL l l' q))
   case atStart => exact ⟨0, by omega, rfl, Below.refl _ _, vaside (fun j hj => absurd hj (Nat.not_lt_zero _))⟩
   case round =>
    obtain ⟨q, hq, rfl, hb, HA⟩ := hrel
    have HBB := Hd hb
    have hwr := hb.size
    clear hb
    cases gk with
    | zero =>
      obtain rfl : q = l.len := by omega
      have hE : Hid (l = l') := Hd (VL.ext HLN.out HA)
      clear HA
      go_wp2_with fail
      go_ret
      exact tells_true hE.out HBB.out
    | succ g =>
      have hqn : q < l.len := by omega
      have hqn' : (q : Int) < (l.len : Int) := by omega
      obtain ⟨x, hx⟩ := VL.get_lt hqn
      obtain ⟨y, hy⟩ := VL.get_lt (show q < l'.len by have := HLN.out; omega)
      have hxs := Nat.le_trans (sizeL_get hx) hlN
      obtain ⟨b, o, d0, d1, d2, d3, d4, rfl, hblt, hF, hV⟩ := LAt.at (LAt.below (HBB.out.mono HB0.out) _ _ _ H1.out) hx
      obtain ⟨b', o', f0, f1, f2, f3, f4, rfl, hblt', hF', hV'⟩ := LAt.at (LAt.below (HBB.out.mono HB0.out) _ _ _ H2.out) hy
      rw [Nat.zero_add] at hF hF'
      have hBr := Nat.le_trans HB0.out hwr
      have C := fun (wx : World) (hx : Below wr.heap.size wr wx) => Hd (HS.out x hxs y d0 d1 d2 d3 d4 f0 f1 f2 f3 f4 wx B (Nat.le_trans hBr hx.size) (VAt.below (hx.mono hBr) _ _ _ _ _ _ hV) (VAt.below (hx.mono hBr) _ _ _ _ _ _ hV'))
      have hag := Hd (fun (e : x = y) => AgreeL.next HA hx (by rw [e]; exact hy))
      have hdf := Hd (fun (ne : ¬ x = y) (e : l = l') => ne (by rw [e, hy] at hx; exact (Option.some.inj hx).symm))
      obtain ⟨xk, xn, xs, xl, xm⟩ := x
      obtain ⟨yk, yn, ys, yl, ym⟩ := y
      unfold VAt at hV hV'
      obtain ⟨rfl, rfl, rfl, _, ⟨A3, c3', rfl, _, _⟩, A4, c4', rfl, _, _⟩ := hV
      obtain ⟨rfl, rfl, rfl, _, ⟨A5, c5', rfl, _, _⟩, A6, c6', rfl, _, _⟩ := hV'
      have hbw : b < wr.heap.size := Nat.lt_of_lt_of_le hblt hBr
      have hbw' : b' < wr.heap.size := Nat.lt_of_lt_of_le hblt' hBr
      have hn1 := als wr (.cells #[.int .i64 xk, .int .i64 xn, .string xs, .slice A3 xl.len c3', .slice A4 xm.len c4'] 35)
      obtain ⟨p0, p1, p2, p3, p4⟩ := hF'.below hn1 hbw'
      obtain ⟨g0, g1, g2, g3, g4⟩ := hF
      have hn2 := Hd (tbl hn1 (als (wr.alloc (.cells #[.int .i64 xk, .int .i64 xn, .string xs, .slice A3 xl.len c3', .slice A4 xm.len c4'] 35)) (.cells #[.int .i64 yk, .int .i64 yn, .string ys, .slice A5 yl.len c5', .slice A6 ym.len c6'] 35)))
      clear hF' hn1 hx hy HA hxs
      by_cases hxy : (VT.mk xk xn xs xl xm) = VT.mk yk yn ys yl ym
      · have hA2 := Hd (hag.out hxy)
        have HC := fun wx hx => Hd ((C wx hx).out.yes hxy)
        clear C hdf hag hxy
        go_wp2_with fail
        refine (HC _ hn2.out).out.mono ?_
        rintro e w2 ⟨rfl, hb2⟩
        have HB2 := Hd (HBB.out.trans ((tbl hn2.out hb2).mono hwr))
        clear hb2 HC g0 g1 g2 g3 g4 p0 p1 p2 p3 p4
        go_wp2_with fail
        go_roundg g
        case measure => omega
        case rel => exact ⟨q + 1, by omega, by go_num, HB2.out, vaside hA2.out⟩
      · have hA2 := Hd (hdf.out hxy)
        have HC := fun wx hx => Hd ((C wx hx).out.no hxy)
        clear C hdf hag hxy
        go_wp2_with fail
        refine (HC _ hn2.out).out.mono ?_
        rintro e w2 ⟨rfl, hb2⟩
        have HB2 := Hd (HBB.out.trans ((tbl hn2.out hb2).mono hwr))
        clear hb2 HC g0 g1 g2 g3 g4 p0 p1 p2 p3 p4
        go_wp2_with fail
        go_ret
        exact tells_false hA2.out HB2.out
 · have e1 : ((l.len : Int) != (l'.len : Int)) = true := by simp; omega
   have hE : Hid (¬ l = l') := Hd (fun e => hlen (by rw [e]))
   go_enter Tryz.func63, Tryz.ntmps63
   go_wp2_with fail
   go_ret
   exact tells_false hE.out (Below.refl _ _)
theorem enters_mem : ∀ args w, (callFunc 65 args).run Tryz.prog w = .ok (.enter 65 args) w := Go.Proofs.enters_of Tryz.func65 (by kernel_rfl) rfl
theorem ba_eq {a b : ByteArray} : a.toList = b.toList ↔ a = b := ⟨fun h => by rw [ByteArray.toList_eq, ByteArray.toList_eq] at h; exact ByteArray.ext (Array.toList_inj.1 h), fun h => by rw [h]⟩
set_option maxRecDepth 100000 in
set_option maxHeartbeats 4000000 in
theorem sam_mem (N : Nat) (H : ∀ u, sizeV u ≤ N → SamC u) (u : VT) (hu : sizeV u ≤ N) (nm nm' : ByteArray) (v : VT) (c0 c1 c2 c3 c4 d0 d1 d2 d3 d4 : Value) (w : World) (B : Nat) (hB : B ≤ w.heap.size) (h1 : VAt w B u c0 c1 c2 c3 c4) (h2 : VAt w B v d0 d1 d2 d3 d4) :
   Tells 65 #[.agg #[.string nm, c0, c1, c2, c3, c4], .agg #[.string nm', d0, d1, d2, d3, d4]] w (nm = nm' ∧ u = v) := by
 have HS := Hd (H u hu v c0 c1 c2 c3 c4 d0 d1 d2 d3 d4)
 have H1 := Hd h1
 have H2 := Hd h2
 have hn1 := als w (.cells #[.string nm, c0, c1, c2, c3, c4] 98)
 have HN := Hd (tbl hn1 (als (w.alloc (.cells #[.string nm, c0, c1, c2, c3, c4] 98)) (.cells #[.string nm', d0, d1, d2, d3, d4] 98)))
 have HB0 := Hd hB
 obtain ⟨xk, xn, xs, xl, xm⟩ := u
 obtain ⟨yk, yn, ys, yl, ym⟩ := v
 unfold VAt at h1 h2
 obtain ⟨rfl, rfl, rfl, _, ⟨A3, c3', rfl, _, _⟩, A4, c4', rfl, _, _⟩ := h1
 obtain ⟨rfl, rfl, rfl, _, ⟨A5, c5', rfl, _, _⟩, A6, c6', rfl, _, _⟩ := h2
 clear H hu hB hn1
 unfold Tells
 by_cases hnn : nm = nm'
 · subst hnn
   have C := fun (wx : World) (hx : Below w.heap.size w wx) => Hd (HS.out wx B (Nat.le_trans HB0.out hx.size) (VAt.below (hx.mono HB0.out) _ _ _ _ _ _ H1.out) (VAt.below (hx.mono HB0.out) _ _ _ _ _ _ H2.out))
   by_cases hxy : (VT.mk xk xn xs xl xm) = VT.mk yk yn ys yl ym
   · have HC := fun wx hx => Hd ((C wx hx).out.yes hxy)
     have hP := Hd (And.intro (rfl : nm = nm) hxy)
     clear C hxy
     go_enter Tryz.func65, Tryz.ntmps65
     go_wp2_with fail
     refine (HC _ HN.out).out.mono ?_
     rintro e w2 ⟨rfl, hb2⟩
     have HB2 := Hd (tbl HN.out hb2)
     clear hb2 HC
     go_wp2_with fail
     go_ret
     exact tells_true hP.out HB2.out
   · have HC := fun wx hx => Hd ((C wx hx).out.no hxy)
     have hP := Hd (fun (h : nm = nm ∧ VT.mk xk xn xs xl xm = VT.mk yk yn ys yl ym) => hxy h.2)
     clear C hxy
     go_enter Tryz.func65, Tryz.ntmps65
     go_wp2_with fail
     refine (HC _ HN.out).out.mono ?_
     rintro e w2 ⟨rfl, hb2⟩
     have HB2 := Hd (tbl HN.out hb2)
     clear hb2 HC
     go_wp2_with fail
     go_ret
     exact tells_false hP.out HB2.out
 · have e1 : (nm.toList == nm'.toList) = false := by
     have : ¬ nm.toList = nm'.toList := fun h => hnn (ba_eq.1 h)
     simpa using this
   have hP := Hd (fun (h : nm = nm' ∧ VT.mk xk xn xs xl xm = VT.mk yk yn ys yl ym) => hnn h.1)
   clear hnn
   go_enter Tryz.func65, Tryz.ntmps65
   go_wp2_with fail
   go_ret
   exact tells_false hP.out HN.out
set_option maxRecDepth 100000 in
set_option maxHeartbeats 8000000 in
theorem eqf_mem (N : Nat) (H : ∀ u, sizeV u ≤ N → SamC u) (l : VM) (hlN : sizeM l ≤ N) (l' : VM) (A A' : Option Addr) (c c' : Nat) (w : World) (B : Nat) (hB : B ≤ w.heap.size) (hl : l.len ≤ 9223372036854775807) (h1 : MAt w B l A 0) (h2 : MAt w B l' A' 0) :
   Tells 64 #[.slice A l.len c, .slice A' l'.len c', .func (.func 65) #[] #[]] w (l = l') := by
 have HS := Hd H
 have HB0 := Hd hB
 have H1 := Hd h1
 have H2 := Hd h2
 have he := enters_mem
 clear H hB h1 h2
 unfold Tells
 by_cases hlen : l.len = l'.len
 · rw [← hlen]
   have HLN := Hd hlen
   clear hlen
   go_enter Tryz.func64, Tryz.ntmps64
   go_wp2_with fail
   go_loopg [17] l.len (fun g i wx => ∃ q : Nat, q + g = l.len ∧ i = .int .i64 q ∧ Below w.heap.size w wx ∧ Aside (AgreeM l l' q))
   case atStart => exact ⟨0, by omega, rfl, Below.refl _ _, vaside (fun j hj => absurd hj (Nat.not_lt_zero _))⟩
   case round =>
    obtain ⟨q, hq, rfl, hb, HA⟩ := hrel
    have HBB := Hd hb
    have hwr := hb.size
    clear hb
    cases gk with
    | zero =>
      obtain rfl : q = l.len := by omega
      have hE : Hid (l = l') := Hd (VM.ext HLN.out HA)
      clear HA
      go_wp2_with fail
      go_ret
      exact tells_true hE.out HBB.out
    | succ g =>
      have hqn : q < l.len := by omega
      have hqn' : (q : Int) < (l.len : Int) := by omega
      obtain ⟨⟨nm, x⟩, hx⟩ := VM.get_lt hqn
      obtain ⟨⟨nm', y⟩, hy⟩ := VM.get_lt (show q < l'.len by have := HLN.out; omega)
      have hxs := Nat.le_trans (name_size hx).2 hlN
      obtain ⟨b, o, d0, d1, d2, d3, d4, rfl, hblt, hnm, _, hF, hV⟩ := MAt.at (MAt.below (HBB.out.mono HB0.out) _ _ _ H1.out) hx
      obtain ⟨b', o', f0, f1, f2, f3, f4, rfl, hblt', hnm', _, hF', hV'⟩ := MAt.at (MAt.below (HBB.out.mono HB0.out) _ _ _ H2.out) hy
      rw [Nat.zero_add] at hF hF' hnm hnm'
      have hBr := Nat.le_trans HB0.out hwr
      have C := fun (wx : World) (hx : Below wr.heap.size wr wx) => Hd (sam_mem N HS.out x hxs nm nm' y d0 d1 d2 d3 d4 f0 f1 f2 f3 f4 wx B (Nat.le_trans hBr hx.size) (VAt.below (hx.mono hBr) _ _ _ _ _ _ hV) (VAt.below (hx.mono hBr) _ _ _ _ _ _ hV'))
      have hag := Hd (fun (e : nm = nm' ∧ x = y) => AgreeM.next HA hx (by rw [e.1, e.2]; exact hy))
      have hdf := Hd (fun (ne : ¬ (nm = nm' ∧ x = y)) (e : l = l') => ne (by rw [e, hy] at hx; have h := Option.some.inj hx; exact ⟨(congrArg Prod.fst h).symm, (congrArg Prod.snd h).symm⟩))
      obtain ⟨xk, xn, xs, xl, xm⟩ := x
      obtain ⟨yk, yn, ys, yl, ym⟩ := y
      unfold VAt at hV hV'
      obtain ⟨rfl, rfl, rfl, _, ⟨A3, c3', rfl, _, _⟩, A4, c4', rfl, _, _⟩ := hV
      obtain ⟨rfl, rfl, rfl, _, ⟨A5, c5', rfl, _, _⟩, A6, c6', rfl, _, _⟩ := hV'
      have hbw : b < wr.heap.size := Nat.lt_of_lt_of_le hblt hBr
      have hbw' : b' < wr.heap.size := Nat.lt_of_lt_of_le hblt' hBr
      have hn1 := als wr (.cells #[.string nm, .int .i64 xk, .int .i64 xn, .string xs, .slice A3 xl.len c3', .slice A4 xm.len c4'] 98)
      obtain ⟨p0, p1, p2, p3, p4⟩ := hF'.below hn1 hbw'
      have pn := (hn1.cell (p := ⟨b', _, none⟩) hbw').trans hnm'
      obtain ⟨g0, g1, g2, g3, g4⟩ := hF
      have hn2 := Hd (tbl hn1 (als (wr.alloc (.cells #[.string nm, .int .i64 xk, .int .i64 xn, .string xs, .slice A3 xl.len c3', .slice A4 xm.len c4'] 98)) (.cells #[.string nm', .int .i64 yk, .int .i64 yn, .string ys, .slice A5 yl.len c5', .slice A6 ym.len c6'] 98)))
      clear hF' hn1 hx hy HA hxs hnm'
      by_cases hxy : nm = nm' ∧ (VT.mk xk xn xs xl xm) = VT.mk yk yn ys yl ym
      · have hA2 := Hd (hag.out hxy)
        have HC := fun wx hx => Hd ((C wx hx).out.yes hxy)
        clear C hdf hag hxy
        go_wp2_with fail
        refine (HC _ hn2.out).out.mono ?_
        rintro e w2 ⟨rfl, hb2⟩
        have HB2 := Hd (HBB.out.trans ((tbl hn2.out hb2).mono hwr))
        clear hb2 HC g0 g1 g2 g3 g4 p0 p1 p2 p3 p4 pn hnm
        go_wp2_with fail
        go_roundg g
        case measure => omega
        case rel => exact ⟨q + 1, by omega, by go_num, HB2.out, vaside hA2.out⟩
      · have hA2 := Hd (hdf.out hxy)
        have HC := fun wx hx => Hd ((C wx hx).out.no hxy)
        clear C hdf hag hxy
        go_wp2_with fail
        refine (HC _ hn2.out).out.mono ?_
        rintro e w2 ⟨rfl, hb2⟩
        have HB2 := Hd (HBB.out.trans ((tbl hn2.out hb2).mono hwr))
        clear hb2 HC g0 g1 g2 g3 g4 p0 p1 p2 p3 p4 pn hnm
        go_wp2_with fail
        go_ret
        exact tells_false hA2.out HB2.out
 · have e1 : ((l.len : Int) != (l'.len : Int)) = true := by simp; omega
   have hE : Hid (¬ l = l') := Hd (fun e => hlen (by rw [e]))
   go_enter Tryz.func64, Tryz.ntmps64
   go_wp2_with fail
   go_ret
   exact tells_false hE.out (Below.refl _ _)
set_option maxRecDepth 100000 in
set_option maxHeartbeats 8000000 in
theorem sam_step (N : Nat) (H : ∀ u, sizeV u ≤ N → SamC u) : ∀ u, sizeV u ≤ N + 1 → SamC u := by
 intro u hu v c0 c1 c2 c3 c4 d0 d1 d2 d3 d4 w B hB h1 h2
 obtain ⟨xk, xn, xs, xl, xm⟩ := u
 obtain ⟨yk, yn, ys, yl, ym⟩ := v
 rw [sizeV] at hu
 unfold VAt at h1 h2
 obtain ⟨rfl, rfl, rfl, _, ⟨A3, c3', rfl, g3, l3⟩, A4, c4', rfl, g4, l4⟩ := h1
 obtain ⟨rfl, rfl, rfl, _, ⟨A5, c5', rfl, g5, l5⟩, A6, c6', rfl, g6, l6⟩ := h2
 have hn1 := als w (.cells #[.int .i64 xk, .int .i64 xn, .string xs, .slice A3 xl.len c3', .slice A4 xm.len c4'] 35)
 have hsw : Hid ((w.alloc (.cells #[.int .i64 xk, .int .i64 xn, .string xs, .slice A3 xl.len c3', .slice A4 xm.len c4'] 35)).heap.size = w.heap.size + 1) := Hd (by simp)
 have HN := Hd (tbl hn1 (als (w.alloc (.cells #[.int .i64 xk, .int .i64 xn, .string xs, .slice A3 xl.len c3', .slice A4 xm.len c4'] 35)) (.cells #[.int .i64 yk, .int .i64 yn, .string ys, .slice A5 yl.len c5', .slice A6 ym.len c6'] 35)))
 have CL := fun (wx : World) (hx : Below w.heap.size w wx) => Hd (eqf_list N H xl (by omega) yl A3 A5 c3' c5' wx B (Nat.le_trans hB hx.size) g3 (LAt.below (hx.mono hB) _ _ _ l3) (LAt.below (hx.mono hB) _ _ _ l5))
 have CM := fun (wx : World) (hx : Below w.heap.size w wx) => Hd (eqf_mem N H xm (by omega) ym A4 A6 c4' c6' wx B (Nat.le_trans hB hx.size) g4 (MAt.below (hx.mono hB) _ _ _ l4) (MAt.below (hx.mono hB) _ _ _ l6))
 have hF1 := Hd (five_at_new w (.int .i64 xk) (.int .i64 xn) (.string xs) (.slice A3 xl.len c3') (.slice A4 xm.len c4') 35 rfl)
 have hF2 := Hd (five_at_new (w.alloc (.cells #[.int .i64 xk, .int .i64 xn, .string xs, .slice A3 xl.len c3', .slice A4 xm.len c4'] 35)) (.int .i64 yk) (.int .i64 yn) (.string ys) (.slice A5 yl.len c5') (.slice A6 ym.len c6') 35 (n := w.heap.size + 1) (by simp))
 have hF1' := Hd (hF1.out.below (als _ (.cells #[.int .i64 yk, .int .i64 yn, .string ys, .slice A5 yl.len c5', .slice A6 ym.len c6'] 35)) (by rw [hsw.out]; omega))
 have hsw2 : Hid (((w.alloc (.cells #[.int .i64 xk, .int .i64 xn, .string xs, .slice A3 xl.len c3', .slice A4 xm.len c4'] 35)).alloc (.cells #[.int .i64 yk, .int .i64 yn, .string ys, .slice A5 yl.len c5', .slice A6 ym.len c6'] 35)).heap.size = w.heap.size + 2) := Hd (by simp)
 clear H hu hB hn1 l3 l4 l5 l6
 unfold Tells
 by_cases hk : xk = yk
 · by_cases hn : xn = yn
   · by_cases hs : xs = ys
     · subst hk hn hs
       by_cases hl : xl = yl
       · have HC := fun wx hx => Hd ((CL wx hx).out.yes hl)
         by_cases hm : xm = ym
         · have HD := fun wx hx => Hd ((CM wx hx).out.yes hm)
           have hP : Hid (VT.mk xk xn xs xl xm = VT.mk xk xn xs yl ym) := Hd (by rw [hl, hm])
           clear CL CM hl hm
           go_enter Tryz.func25, Tryz.ntmps25
           go_wp2_with fail
           refine (HC _ HN.out).out.mono ?_
           rintro e w2 ⟨rfl, hb2⟩
           obtain ⟨p0, p1, p2, p3, p4⟩ := hF1'.out.below hb2 (by rw [hsw2.out]; omega)
           obtain ⟨q0, q1, q2, q3, q4⟩ := hF2.out.below hb2 (by rw [hsw2.out]; omega)
           have hb3 := Hd (tbl HN.out hb2)
           clear hb2 HC
           go_wp2_with fail
           refine (HD _ hb3.out).out.mono ?_
           rintro e w3 ⟨rfl, hb4⟩
           have HB4 := Hd (tbl hb3.out hb4)
           clear hb4 HD
           go_wp2_with fail
           go_ret
           exact tells_true hP.out HB4.out
         · have HD := fun wx hx => Hd ((CM wx hx).out.no hm)
           have hP : Hid (¬ VT.mk xk xn xs xl xm = VT.mk xk xn xs yl ym) := Hd (fun e => hm (by injection e))
           clear CL CM hl hm
           go_enter Tryz.func25, Tryz.ntmps25
           go_wp2_with fail
           refine (HC _ HN.out).out.mono ?_
           rintro e w2 ⟨rfl, hb2⟩
           obtain ⟨p0, p1, p2, p3, p4⟩ := hF1'.out.below hb2 (by rw [hsw2.out]; omega)
           obtain ⟨q0, q1, q2, q3, q4⟩ := hF2.out.below hb2 (by rw [hsw2.out]; omega)
           have hb3 := Hd (tbl HN.out hb2)
           clear hb2 HC
           go_wp2_with fail
           refine (HD _ hb3.out).out.mono ?_
           rintro e w3 ⟨rfl, hb4⟩
           have HB4 := Hd (tbl hb3.out hb4)
           clear hb4 HD
           go_wp2_with fail
           go_ret
           exact tells_false hP.out HB4.out
       · have HC := fun wx hx => Hd ((CL wx hx).out.no hl)
         have hP : Hid (¬ VT.mk xk xn xs xl xm = VT.mk xk xn xs yl ym) := Hd (fun e => hl (by injection e))
         clear CL CM hl
         go_enter Tryz.func25, Tryz.ntmps25
         go_wp2_with fail
         refine (HC _ HN.out).out.mono ?_
         rintro e w2 ⟨rfl, hb2⟩
         have hb3 := Hd (tbl HN.out hb2)
         clear hb2 HC
         go_wp2_with fail
         go_ret
         exact tells_false hP.out hb3.out
     · subst hk hn
       have e1 : (xs.toList == ys.toList) = false := by
         have : ¬ xs.toList = ys.toList := fun h => hs (ba_eq.1 h)
         simpa using this
       have hP : Hid (¬ VT.mk xk xn xs xl xm = VT.mk xk xn ys yl ym) := Hd (fun e => hs (by injection e))
       clear CL CM hs
       go_enter Tryz.func25, Tryz.ntmps25
       go_wp2_with fail
       go_ret
       exact tells_false hP.out HN.out
   · subst hk
     have e1 : (xn == yn) = false := by simpa using hn
     have hP : Hid (¬ VT.mk xk xn xs xl xm = VT.mk xk yn ys yl ym) := Hd (fun e => hn (by injection e))
     clear CL CM hn
     go_enter Tryz.func25, Tryz.ntmps25
     go_wp2_with fail
     go_ret
     exact tells_false hP.out HN.out
 · have e1 : (xk == yk) = false := by simpa using hk
   have hP : Hid (¬ VT.mk xk xn xs xl xm = VT.mk yk yn ys yl ym) := Hd (fun e => hk (by injection e))
   clear CL CM hk
   go_enter Tryz.func25, Tryz.ntmps25
   go_wp2_with fail
   go_ret
   exact tells_false hP.out HN.out
theorem sam_all : ∀ N u, sizeV u ≤ N → SamC u
 | 0, u, h => by have := sizeV_pos u; omega
 | N + 1, u, h => sam_step N (sam_all N) u h
theorem sam_any (u : VT) : SamC u := sam_all _ u (Nat.le_refl _)
open Go.ChangeShapes Go.WideShapes Go.ChangeAt Go.RowKit
def OpenedV {H : Type} (W : World) (cs : List Value) (d : DataW H) : Prop := ∃ v c0 c1 c2 c3 c4, cs = [c0, c1, c2, c3, c4] ∧ VAt W W.heap.size v c0 c1 c2 c3 c4 ∧ RngV v ∧ sizeV v ≤ Rows.uptoBulk d ∧ ((∀ m ∈ d.weights Tryz.prog 35, m ≤ reachBytes) → SlimV v)
def OpenedM {H : Type} (W : World) (cs : List Value) (d : DataW H) : Prop := ∃ nm v c0 c1 c2 c3 c4, cs = [.string nm, c0, c1, c2, c3, c4] ∧ nm.size ≤ 9223372036854775807 ∧ VAt W W.heap.size v c0 c1 c2 c3 c4 ∧ RngV v ∧ nm.size + sizeV v ≤ Rows.uptoBulk d ∧ ((∀ m ∈ d.weights Tryz.prog 98, m ≤ reachBytes) → SlimV v)
theorem cells5 {W : World} {b o i : Nat} {c0 c1 c2 c3 c4 : Value} {n : Nat} (h : W.cells? 0 ⟨b, o + i, none⟩ n = some [c0, c1, c2, c3, c4]) : b < W.heap.size ∧ Five W b (o + i) c0 c1 c2 c3 c4 := by
 obtain ⟨_, hl, hat⟩ := World.cells?_some h
 simp only [List.length_cons, List.length_nil] at hl
 simp only [add_at] at hat
 have g0 := hat 0 (by omega)
 have g1 := hat 1 (by omega)
 have g2 := hat 2 (by omega)
 have g3 := hat 3 (by omega)
 have g4 := hat 4 (by omega)
 exact ⟨World.block_lt_of_cell? W _ (g0.trans rfl), g0.trans rfl, g1.trans rfl, g2.trans rfl, g3.trans rfl, g4.trans rfl⟩
theorem cells6 {W : World} {b o i : Nat} {c c0 c1 c2 c3 c4 : Value} {n : Nat} (h : W.cells? 0 ⟨b, o + i, none⟩ n = some [c, c0, c1, c2, c3, c4]) : b < W.heap.size ∧ W.cell? ⟨b, o + i, none⟩ = some c ∧ Five W b (o + i + 1) c0 c1 c2 c3 c4 := by
 obtain ⟨_, hl, hat⟩ := World.cells?_some h
 simp only [List.length_cons, List.length_nil] at hl
 simp only [add_at] at hat
 have g := hat 0 (by omega)
 have g0 := hat 1 (by omega)
 have g1 := hat 2 (by omega)
 have g2 := hat 3 (by omega)
 have g3 := hat 4 (by omega)
 have g4 := hat 5 (by omega)
 exact ⟨World.block_lt_of_cell? W _ (g.trans rfl), g.trans rfl, g0.trans rfl, g1.trans rfl, g2.trans rfl, g3.trans rfl, g4.trans rfl⟩
theorem list_opened {H : Type} {W : World} {b o : Nat} {T : List Value → Option (DataW H × List MemPlace)} (IH : ∀ cs x, T cs = some x → OpenedV W cs x.1) : ∀ (elems : List (DataW H × List MemPlace)) (j : Nat),
   (∀ i, i < elems.length → (W.cells? 0 ⟨b, o + (j + i) * 5, none⟩ 5).bind T = elems[i]?) →
   ∃ l : VL, l.len = elems.length ∧ LAt W W.heap.size l (some ⟨b, o, none⟩) j ∧ RngL l ∧ sizeL l ≤ Rows.uptoBulkAll (elems.map (·.1)) ∧ ((∀ m ∈ DataW.weightsAll Tryz.prog 35 (elems.map (·.1)), m ≤ reachBytes) → SlimL l)
 | [], j, _ => ⟨.nil, rfl, by unfold LAt; trivial, by unfold RngL; trivial, by rw [sizeL]; exact Nat.zero_le _, fun _ => by unfold SlimL; trivial⟩
 | x :: elems, j, h => by
   have h0 := h 0 (by simp)
   rw [Nat.add_zero] at h0
   obtain ⟨cs, hc, ht⟩ := Option.bind_eq_some_iff.1 (h0.trans rfl)
   obtain ⟨v, c0, c1, c2, c3, c4, rfl, hv, hr, hs, hw⟩ := IH cs x ht
   obtain ⟨hlt, hF⟩ := cells5 hc
   obtain ⟨l, h1, h2, h3, h4, h5⟩ := list_opened IH elems (j + 1) (fun i hi => by
     have := h (i + 1) (by simp; omega)
     rw [show j + (i + 1) = j + 1 + i by omega] at this
     simpa using this)
   refine ⟨.cons v l, by rw [VL.len, h1, List.length_cons], by unfold LAt; exact ⟨⟨b, o, c0, c1, c2, c3, c4, rfl, hlt, hF, hv⟩, h2⟩, by unfold RngL; exact ⟨hr, h3⟩, ?_, fun hm => ?_⟩
   · rw [sizeL, List.map_cons, Rows.uptoBulkAll]; omega
   · rw [List.map_cons, DataW.weightsAll] at hm
     unfold SlimL
     exact ⟨hw (fun m h => hm m (List.mem_append_left _ h)), h5 (fun m h => hm m (List.mem_append_right _ h))⟩
theorem mems_opened {H : Type} {W : World} {b o : Nat} {T : List Value → Option (DataW H × List MemPlace)} (IH : ∀ cs x, T cs = some x → OpenedM W cs x.1) : ∀ (elems : List (DataW H × List MemPlace)) (j : Nat),
   (∀ i, i < elems.length → (W.cells? 0 ⟨b, o + (j + i) * 6, none⟩ 6).bind T = elems[i]?) →
   ∃ l : VM, l.len = elems.length ∧ MAt W W.heap.size l (some ⟨b, o, none⟩) j ∧ RngM l ∧ sizeM l ≤ Rows.uptoBulkAll (elems.map (·.1)) ∧ ((∀ m ∈ DataW.weightsAll Tryz.prog 98 (elems.map (·.1)), m ≤ reachBytes) → SlimM l)
 | [], j, _ => ⟨.nil, rfl, by unfold MAt; trivial, by unfold RngM; trivial, by rw [sizeM]; exact Nat.zero_le _, fun _ => by unfold SlimM; trivial⟩
 | x :: elems, j, h => by
   have h0 := h 0 (by simp)
   rw [Nat.add_zero] at h0
   obtain ⟨cs, hc, ht⟩ := Option.bind_eq_some_iff.1 (h0.trans rfl)
   obtain ⟨nm, v, c0, c1, c2, c3, c4, rfl, hn, hv, hr, hs, hw⟩ := IH cs x ht
   obtain ⟨hlt, hN, hF⟩ := cells6 hc
   obtain ⟨l, h1, h2, h3, h4, h5⟩ := mems_opened IH elems (j + 1) (fun i hi => by
     have := h (i + 1) (by simp; omega)
     rw [show j + (i + 1) = j + 1 + i by omega] at this
     simpa using this)
   refine ⟨.cons nm v l, by rw [VM.len, h1, List.length_cons], by unfold MAt; exact ⟨⟨b, o, c0, c1, c2, c3, c4, rfl, hlt, hN, hn, hF, hv⟩, h2⟩, by unfold RngM; exact ⟨hr, h3⟩, ?_, fun hm => ?_⟩
   · rw [sizeM, List.map_cons, Rows.uptoBulkAll]; omega
   · rw [List.map_cons, DataW.weightsAll] at hm
     unfold SlimM
     exact ⟨hw (fun m h => hm m (List.mem_append_left _ h)), h5 (fun m h => hm m (List.mem_append_right _ h))⟩
theorem bytesV : Tryz.prog.bytesOf 35 = 80 := by kernel_rfl
theorem bytesM : Tryz.prog.bytesOf 98 = 96 := by kernel_rfl
theorem spot_none {W : World} {a : Addr} {n : Nat} {cs : List Value} (hn : 0 < n) (h : W.cells? 0 a n = some cs) : a.spot = none := by
 obtain ⟨_, hl, hat⟩ := World.cells?_some h
 have h2 := hat 0 (by omega)
 rw [List.getElem?_eq_getElem (by omega)] at h2
 have := World.cell?_spot h2
 obtain ⟨b, o, spot⟩ := a
 simpa [Addr.add] using this
theorem slice_opened {H : Type} {enc : TypeId × Value → H} {W : World} {fuel : Nat} {cv : Value} {x : DataW H × List MemPlace} (IH : ∀ n, n < fuel → ∀ cs x, DataW.trod enc Tryz.prog W 0 (fun _ => true) true n 35 cs = some x → OpenedV W cs x.1)
   (h : DataW.trod enc Tryz.prog W 0 (fun _ => true) true fuel 32 [cv] = some x) : ∃ (l : VL) (A : Option Addr) (c : Nat), cv = .slice A l.len c ∧ l.len ≤ 9223372036854775807 ∧ LAt W W.heap.size l A 0 ∧ RngL l ∧ sizeL l + 1 ≤ Rows.uptoBulk x.1 ∧ ((∀ m ∈ x.1.weights Tryz.prog 32, m ≤ reachBytes) → l.len * 80 ≤ 140737488355328 ∧ SlimL l) := by
 rcases DataW.trod_slice Tryz.underlying32 h with ⟨hc, rfl⟩ | ⟨a, len, cap, elems, rest, n', hn', hc, rfl, _, hlc, hcm, hel, hat, _⟩
 · simp only [List.cons.injEq, and_true] at hc
   exact ⟨.nil, none, 0, hc, Nat.zero_le _, by unfold LAt; trivial, by unfold RngL; trivial, by simp [sizeL, Rows.uptoBulk], fun _ => ⟨by simp [VL.len], by unfold SlimL; trivial⟩⟩
 · simp only [List.cons.injEq, and_true] at hc
   subst hel
   rw [cellsV] at hat
   obtain ⟨b, o, spot⟩ := a
   have hsp : 0 < elems.length → spot = none := fun hp => by
     have h1 := hat 0 hp
     rw [List.getElem?_eq_getElem hp] at h1
     obtain ⟨cs', hc', _⟩ := Option.bind_eq_some_iff.1 h1
     exact spot_none (by omega) hc'
   rcases Nat.eq_zero_or_pos elems.length with hz | hz
   · have he : elems = [] := List.eq_nil_of_length_eq_zero hz
     subst he
     exact ⟨.nil, _, cap, hc, Nat.zero_le _, by unfold LAt; trivial, by unfold RngL; trivial, by simp only [sizeL, Rows.uptoBulk]; omega, fun _ => ⟨by simp [VL.len], by unfold SlimL; trivial⟩⟩
   · obtain rfl := hsp hz
     obtain ⟨l, h1, h2, h3, h4, h5⟩ := list_opened (T := DataW.trod enc Tryz.prog W 0 (fun _ => true) true n' 35) (IH n' (by omega)) elems 0 (fun i hi => by
       have := hat i hi
       rwa [add_at, show i * 5 = (0 + i) * 5 by omega] at this)
     refine ⟨l, _, cap, by rw [hc, h1], by rw [h1]; exact Nat.le_trans hlc hcm, h2, h3, ?_, fun hm => ?_⟩
     · simp only [Rows.uptoBulk]; omega
     · simp only [DataW.weights, Tryz.underlying32] at hm
       refine ⟨?_, h5 (fun m h => hm m (List.mem_cons.2 (.inr (List.mem_append.2 (.inl h)))))⟩
       have := hm _ (List.mem_cons.2 (.inl rfl))
       simp only [List.length_map, bytesV, reachBytes] at this
       rw [h1]; omega
theorem mslice_opened {H : Type} {enc : TypeId × Value → H} {W : World} {fuel : Nat} {cv : Value} {x : DataW H × List MemPlace} (IH : ∀ n, n < fuel → ∀ cs x, DataW.trod enc Tryz.prog W 0 (fun _ => true) true n 35 cs = some x → OpenedV W cs x.1)
   (h : DataW.trod enc Tryz.prog W 0 (fun _ => true) true fuel 33 [cv] = some x) : ∃ (l : VM) (A : Option Addr) (c : Nat), cv = .slice A l.len c ∧ l.len ≤ 9223372036854775807 ∧ MAt W W.heap.size l A 0 ∧ RngM l ∧ sizeM l + 1 ≤ Rows.uptoBulk x.1 ∧ ((∀ m ∈ x.1.weights Tryz.prog 33, m ≤ reachBytes) → l.len * 96 ≤ 140737488355328 ∧ SlimM l) := by
 rcases DataW.trod_slice Tryz.underlying33 h with ⟨hc, rfl⟩ | ⟨a, len, cap, elems, rest, n', hn', hc, rfl, _, hlc, hcm, hel, hat, _⟩
 · simp only [List.cons.injEq, and_true] at hc
   exact ⟨.nil, none, 0, hc, Nat.zero_le _, by unfold MAt; trivial, by unfold RngM; trivial, by simp [sizeM, Rows.uptoBulk], fun _ => ⟨by simp [VM.len], by unfold SlimM; trivial⟩⟩
 · simp only [List.cons.injEq, and_true] at hc
   subst hel
   rw [cellsM] at hat
   obtain ⟨b, o, spot⟩ := a
   have hsp : 0 < elems.length → spot = none := fun hp => by
     have h1 := hat 0 hp
     rw [List.getElem?_eq_getElem hp] at h1
     obtain ⟨cs', hc', _⟩ := Option.bind_eq_some_iff.1 h1
     exact spot_none (by omega) hc'
   have IHM : ∀ cs x, DataW.trod enc Tryz.prog W 0 (fun _ => true) true n' 98 cs = some x → OpenedM W cs x.1 := by
     intro cs x ht
     obtain ⟨ys, n2, hn2, rfl, hl2, hyl, hf2⟩ := DataW.trod_struct Tryz.underlying98 ht
     rw [cellsM] at hl2
     obtain ⟨d, d0, d1, d2, d3, d4, rfl⟩ := six_list hl2
     have p0 : DataW.trod enc Tryz.prog W 0 (fun _ => true) true n2 9 [d] = ys[0]? := by have h' : DataW.trod enc Tryz.prog W 0 (fun _ => true) true n2 9 (([d, d0, d1, d2, d3, d4].drop 0).take (Tryz.prog.cellsOf 9)) = ys[0]? := hf2 0 _ rfl; rw [cellsS] at h'; exact h'
     have p1 : DataW.trod enc Tryz.prog W 0 (fun _ => true) true n2 35 [d0, d1, d2, d3, d4] = ys[1]? := by have h' : DataW.trod enc Tryz.prog W 0 (fun _ => true) true n2 35 (([d, d0, d1, d2, d3, d4].drop 1).take (Tryz.prog.cellsOf 35)) = ys[1]? := hf2 1 _ rfl; rw [cellsV] at h'; exact h'
     match ys, hyl with
     | [z0, z1], _ =>
       obtain ⟨t, e2, hz0, htz⟩ := DataW.trod_string Tryz.underlying9 (p0.trans rfl)
       obtain ⟨v, c0, c1, c2, c3, c4, hcs, hv, hr, hs, hw⟩ := IH n2 (by omega) _ z1 (p1.trans rfl)
       simp only [List.cons.injEq, and_true] at e2 hcs
       obtain ⟨rfl, rfl, rfl, rfl, rfl⟩ := hcs
       subst e2
       refine ⟨t, v, _, _, _, _, _, rfl, htz, hv, hr, ?_, fun hm => hw (fun m h => hm m ?_)⟩
       · simp only [List.map_cons, List.map_nil, Rows.uptoBulk, Rows.uptoBulkAll, hz0]
         have : t.data.toList.length = t.size := Array.length_toList
         omega
       · simp only [List.map_cons, List.map_nil, DataW.weights, Tryz.underlying98, DataW.weightsEach]
         exact List.mem_append_right _ (List.mem_append_left _ h)
   rcases Nat.eq_zero_or_pos elems.length with hz | hz
   · have he : elems = [] := List.eq_nil_of_length_eq_zero hz
     subst he
     exact ⟨.nil, _, cap, hc, Nat.zero_le _, by unfold MAt; trivial, by unfold RngM; trivial, by simp only [sizeM, Rows.uptoBulk]; omega, fun _ => ⟨by simp [VM.len], by unfold SlimM; trivial⟩⟩
   · obtain rfl := hsp hz
     obtain ⟨l, h1, h2, h3, h4, h5⟩ := mems_opened (T := DataW.trod enc Tryz.prog W 0 (fun _ => true) true n' 98) IHM elems 0 (fun i hi => by
       have := hat i hi
       rwa [add_at, show i * 6 = (0 + i) * 6 by omega] at this)
     refine ⟨l, _, cap, by rw [hc, h1], by rw [h1]; exact Nat.le_trans hlc hcm, h2, h3, ?_, fun hm => ?_⟩
     · simp only [Rows.uptoBulk]; omega
     · simp only [DataW.weights, Tryz.underlying33] at hm
       refine ⟨?_, h5 (fun m h => hm m (List.mem_cons.2 (.inr (List.mem_append.2 (.inl h)))))⟩
       have := hm _ (List.mem_cons.2 (.inl rfl))
       simp only [List.length_map, bytesM, reachBytes] at this
       rw [h1]; omega
set_option maxRecDepth 100000 in
theorem value_opened {H : Type} {enc : TypeId × Value → H} {W : World} : ∀ (fuel : Nat) (cs : List Value) (x : DataW H × List MemPlace), DataW.trod enc Tryz.prog W 0 (fun _ => true) true fuel 35 cs = some x → OpenedV W cs x.1 := by
 intro fuel
 induction fuel using Nat.strongRecOn with
 | ind fuel ih =>
   intro cs x h
   obtain ⟨xs, n, rfl, rfl, hl, hxl, hf⟩ := DataW.trod_struct Tryz.underlying35 h
   rw [cellsV] at hl
   obtain ⟨c0, c1, c2, c3, c4, rfl⟩ := five_list hl
   have f0 : DataW.trod enc Tryz.prog W 0 (fun _ => true) true n 3 [c0] = xs[0]? := by have h' : DataW.trod enc Tryz.prog W 0 (fun _ => true) true n 3 (([c0, c1, c2, c3, c4].drop 0).take (Tryz.prog.cellsOf 3)) = xs[0]? := hf 0 _ rfl; rw [cellsI] at h'; exact h'
   have f1 : DataW.trod enc Tryz.prog W 0 (fun _ => true) true n 2 [c1] = xs[1]? := by have h' : DataW.trod enc Tryz.prog W 0 (fun _ => true) true n 2 (([c0, c1, c2, c3, c4].drop 1).take (Tryz.prog.cellsOf 2)) = xs[1]? := hf 1 _ rfl; rw [cellsI64] at h'; exact h'
   have f2 : DataW.trod enc Tryz.prog W 0 (fun _ => true) true n 9 [c2] = xs[2]? := by have h' : DataW.trod enc Tryz.prog W 0 (fun _ => true) true n 9 (([c0, c1, c2, c3, c4].drop 2).take (Tryz.prog.cellsOf 9)) = xs[2]? := hf 2 _ rfl; rw [cellsS] at h'; exact h'
   have f3 : DataW.trod enc Tryz.prog W 0 (fun _ => true) true n 32 [c3] = xs[3]? := by have h' : DataW.trod enc Tryz.prog W 0 (fun _ => true) true n 32 (([c0, c1, c2, c3, c4].drop 3).take (Tryz.prog.cellsOf 32)) = xs[3]? := hf 3 _ rfl; rw [cellsLV] at h'; exact h'
   have f4 : DataW.trod enc Tryz.prog W 0 (fun _ => true) true n 33 [c4] = xs[4]? := by have h' : DataW.trod enc Tryz.prog W 0 (fun _ => true) true n 33 (([c0, c1, c2, c3, c4].drop 4).take (Tryz.prog.cellsOf 33)) = xs[4]? := hf 4 _ rfl; rw [cellsLM] at h'; exact h'
   match xs, hxl with
   | [y0, y1, y2, y3, y4], _ =>
     obtain ⟨k, e0, hy0, _⟩ := DataW.trod_int Tryz.underlying3 (f0.trans rfl)
     obtain ⟨m, e1, hy1, wf⟩ := DataW.trod_int Tryz.underlying2 (f1.trans rfl)
     obtain ⟨t, e2, hy2, ht⟩ := DataW.trod_string Tryz.underlying9 (f2.trans rfl)
     obtain ⟨l, A, c, h3, g3, h4, r3, s3, w3⟩ := slice_opened (fun n' hn' => ih n' (by omega)) (f3.trans rfl)
     obtain ⟨l', A', c', h5, g5, h6, r5, s5, w5⟩ := mslice_opened (fun n' hn' => ih n' (by omega)) (f4.trans rfl)
     simp only [List.cons.injEq, and_true] at e0 e1 e2
     subst e0 e1 e2 h3 h5
     refine ⟨.mk k m t l l', _, _, _, _, _, rfl, by unfold VAt; exact ⟨rfl, rfl, rfl, ht, ⟨A, c, rfl, g3, h4⟩, A', c', rfl, g5, h6⟩, ?_, ?_, fun hm => ?_⟩
     · unfold RngV
       refine ⟨?_, r3, r5⟩
       have hw := wf
       simp only [Lit.wf] at hw
       have hw2 : (-9223372036854775808 ≤ m) ∧ m ≤ 9223372036854775807 := by
        simpa [Bool.and_eq_true, IntKind.min, IntKind.max, IntKind.signed, IntKind.bits] using hw
       exact hw2
     · simp only [List.map_cons, List.map_nil, Rows.uptoBulk, Rows.uptoBulkAll, hy0, hy1, hy2]
       have : t.data.toList.length = t.size := Array.length_toList
       rw [sizeV]
       omega
     · simp only [List.map_cons, List.map_nil, DataW.weights, Tryz.underlying35, DataW.weightsEach, hy0, hy1, hy2] at hm
       unfold SlimV
       have a3 := w3 (fun m h => hm m (by simp only [List.mem_append]; simp [h]))
       have a5 := w5 (fun m h => hm m (by simp only [List.mem_append]; simp [h]))
       exact ⟨a3.1, a5.1, a3.2, a5.2⟩
open Go.ChangeShapes Go.WideShapes Go.ChangeAt Go.RowKit
theorem gRange : Tryz.prog.globalNamed "strconv.ErrRange" = some 3 := by kernel_rfl
theorem gRangeType : (Tryz.prog.globals[3]?).map (·.type) = some 105 := by kernel_rfl
theorem range_laid {W : World} (h : Lib.VarReads Tryz.prog W "strconv.ErrRange" Rows.laid_strconv_ErrRange) : ∃ te pe, W.cell? ⟨3, 0, none⟩ = some (.iface te pe) := by
 obtain ⟨g', t', cs, fuel, p, hg', ht', hvar, hd⟩ := h
 obtain rfl := Option.some.inj (gRange.symm.trans hg')
 obtain rfl := Option.some.inj (gRangeType.symm.trans ht')
 obtain ⟨_, u, v, e, _, _⟩ := iface_of_trod Tryz.underlying105 hd
 refine ⟨u, v, ?_⟩
 rw [World.var?_cell gRange hvar 0]
 have : cs[0]? = cs.toList[0]? := by simp
 rw [this, e]
 rfl
theorem gPowType : (Tryz.prog.globals[0]?).map (·.type) = some 262 := by kernel_rfl
theorem pow_laid {W : World} (h : Lib.VarReads Tryz.prog W "internal/strconv.uint64pow10" Rows.laid_internal_strconv_uint64pow10) : Lib.TabIs Tryz.prog W "internal/strconv.uint64pow10" .u64 Lib.pow10Tab := by
 obtain ⟨g', t', cs, fuel, p, hg', ht', hvar, hd⟩ := h
 obtain rfl := Option.some.inj (gPow.symm.trans hg')
 obtain rfl := Option.some.inj (gPowType.symm.trans ht')
 have hd' : DataW.trod (fun _ => ()) Tryz.prog W 0 (fun _ => true) false fuel 262 cs.toList = some (Lib.tabData .u64 Lib.pow10Tab, p) := hd
 have := Lib.cells_of_tab Tryz.underlying262 Tryz.underlying238 (by kernel_rfl) (by kernel_rfl) hd'
 unfold Lib.TabIs
 rw [hvar, ← this]
theorem laid5_of {W : World} (h : laidMetH Tryz.prog allLaid W) : Laid5 W := by
 rw [MakeChecks.laidMetH_plain _ _ _ (by kernel_rfl)] at h
 exact ⟨table (Lib.laidMet.reads h (by simp [allLaid])), range_laid (Lib.laidMet.reads h (by simp [allLaid])), pow_laid (Lib.laidMet.reads h (by simp [allLaid]))⟩
set_option maxRecDepth 100000 in
theorem open_val {H : Type} {enc : TypeId × Value → H} {W : World} {base : Nat} {v : Value} {d : DataW H} {ps : List MemPlace} (hval : Value.okWide Tryz.prog W .any base 35 v) (hd : DataW.Trod enc Tryz.prog W 0 (fun _ => true) true 35 v d ps) :
   ∃ x c0 c1 c2 c3 c4, v = .agg #[c0, c1, c2, c3, c4] ∧ VAt W W.heap.size x c0 c1 c2 c3 c4 ∧ RngV x ∧ sizeV x ≤ Rows.uptoBulk d ∧ ((∀ m ∈ d.weights Tryz.prog 35, m ≤ reachBytes) → SlimV x) := by
 obtain ⟨cs, rfl, hsz⟩ := okWide_struct Tryz.underlying35 hval
 obtain ⟨fuel, hf⟩ := hd
 obtain ⟨x, c0, c1, c2, c3, c4, hc, h1, h2, h3, h4⟩ := value_opened fuel _ _ hf
 refine ⟨x, c0, c1, c2, c3, c4, ?_, h1, h2, h3, h4⟩
 obtain ⟨L⟩ := cs
 rw [cellsV] at hsz
 match L, hsz with
 | [a, b, c, e, f], _ =>
   simp [Value.cells] at hc
   obtain ⟨rfl, rfl, rfl, rfl, rfl⟩ := hc
   rfl
theorem bulk_part {H : Type} {d : DataW H} : ∀ {l : List (DataW H)}, d ∈ l → Rows.uptoBulk d ≤ Rows.uptoBulkAll l
 | [], h => by simp at h
 | x :: r, h => by
   rw [Rows.uptoBulkAll]
   rcases List.mem_cons.1 h with rfl | h
   · omega
   · have := bulk_part h; omega
end Go.Proofs.YtpkmbhnikilihaaGreatDoor
