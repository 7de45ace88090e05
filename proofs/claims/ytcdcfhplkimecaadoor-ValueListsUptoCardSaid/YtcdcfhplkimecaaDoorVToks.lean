/- Rows of tokens that are owned; the walks of word, punct and truth. -/
import Derived.Test.YtcdcfhplkimecaaDoorVGood
namespace Go.Proofs.YtcdcfhplkimecaaDoor
open Go.RowKit

def cellsT : List (Int × ByteArray) → List Value
  | [] => []
  | t :: ts => .int .i64 t.1 :: .string t.2 :: cellsT ts
theorem cellsT_len : ∀ ts, (cellsT ts).length = ts.length * 2
  | [] => rfl
  | t :: ts => by simp only [cellsT, List.length_cons, cellsT_len ts]; omega
theorem cellsT_app : ∀ ts us, cellsT (ts ++ us) = cellsT ts ++ cellsT us
  | [], _ => rfl
  | t :: ts, us => by simp only [List.cons_append, cellsT, cellsT_app ts us]
theorem cellsT_one : ∀ ts u, u ∈ cellsT ts → u.oneCell' = true
  | [], u, h => by simp [cellsT] at h
  | t :: ts, u, h => by
    simp only [cellsT, List.mem_cons] at h
    rcases h with rfl | rfl | h
    · rfl
    · rfl
    · exact cellsT_one ts u h
/-- A row of tokens that is the call's own. -/
def TR (base : Nat) (w : World) (V : Value) (ts : List (Int × ByteArray)) : Prop := w.ownsRow base 49 2 V ts.length (cellsT ts)
theorem TR.low {base : Nat} {w w' : World} {V : Value} {ts : List (Int × ByteArray)} (h : TR base w V ts) (hb : Below w.heap.size w w') : TR base w' V ts := own_low h hb
theorem TR.nil (base : Nat) (w : World) : TR base w (.slice none 0 0) [] := World.ownsRow_nil _ _ _ _
theorem vinfo_tok : (Tryd.prog.info? 49).map (fun i => (i.zero, i.size, i.bytes)) = some (some (.agg #[.int .i64 0, .string ⟨#[]⟩]), 2, 24) := by kernel_rfl
theorem info_parts2 {t : TypeId} {z : Value} {s b : Nat} (h : (Tryd.prog.info? t).map (fun i => (i.zero, i.size, i.bytes)) = some (some z, s, b)) : ∃ i, Tryd.prog.info? t = some i ∧ i.zero = some z ∧ i.size = s ∧ i.bytes = b := by
  cases hi : Tryd.prog.info? t with
  | none => rw [hi] at h; cases h
  | some i => rw [hi] at h; simp at h; exact ⟨i, rfl, h.1, h.2.1, h.2.2⟩
/-- All blocks but that of the row stand; the row's block is the same, or new. -/
def Grew (w w' : World) (V V' : Value) : Prop := w.grownBy w' V.ownBlock ∧ ∀ b, V'.ownBlock = some b → V.ownBlock = some b ∨ w.heap.size ≤ b
theorem Grew.of_below {w w' : World} {V : Value} (h : Below w.heap.size w w') : Grew w w' V V := ⟨⟨h.os, h.tape, h.output, h.size, fun b hb _ => h.block b hb⟩, fun _ hb => .inl hb⟩
theorem Grew.trans {w w1 w2 : World} {V V1 V2 : Value} (h : Grew w w1 V V1) (h' : Grew w1 w2 V1 V2) : Grew w w2 V V2 := by
  obtain ⟨g, o⟩ := h
  obtain ⟨g', o'⟩ := h'
  have hs := g.size
  refine ⟨⟨g'.os.trans g.os, g'.tape.trans g.tape, g'.output.trans g.output, Nat.le_trans hs g'.size, fun b hb hne => ?_⟩, fun b hb => ?_⟩
  · refine (g'.block b (by omega) (fun e => ?_)).trans (g.block b hb hne)
    rcases o b e.symm with h | h
    · exact hne h.symm
    · omega
  · rcases o' b hb with h | h
    · exact o b h
    · exact .inr (Nat.le_trans hs h)
theorem Grew.base {base : Nat} {w w' : World} {V V' : Value} {ts : List (Int × ByteArray)} (h : Grew w w' V V') (hT : TR base w V ts) (hB : base ≤ w.heap.size) : Below base w w' :=
  (Below.refl base w).grown h.1 hB (fun k hk => (hT.lt k hk).1)
theorem Grew.cell {w w' : World} {V V' : Value} {b i : Nat} {x : Value} (h : Grew w w' V V') (hb : b < w.heap.size) (hV : V.ownBlock ≠ some b) (hc : w.cell? ⟨b, i, none⟩ = some x) : w'.cell? ⟨b, i, none⟩ = some x :=
  (World.cell?_of_block (a := ⟨b, i, none⟩) (h.1.block b hb (fun e => hV e.symm))).trans hc
/-- An append of tokens to a row of one's own. -/
theorem wpList_append_tok {w : World} {ops : Array Oper} {rest : List Oper} {o : Oper} {a : Act} {Q : Exit → Act → World → Prop} (hgd : o.guard = none) (s x : Operand)
    (ho : o.op = .call { callee := .builtin .append, args := #[s, x], argTypes := #[29, 29] })
    (base : Nat) (v : Value) (ts : List (Int × ByteArray)) (hs : a.eval s = v) (hown : TR base w v ts) (g m c : Nat) (new : List (Int × ByteArray)) (hx : a.eval x = .slice (some ⟨g, 0, none⟩) m c) (hm : new.length = m)
    (hnew : ∀ (j : Nat) u, (cellsT new)[j]? = some u → w.cell? ((⟨g, 0, none⟩ : Addr).add j) = some u) (hm0 : 0 < m) (hlen : ts.length + m ≤ 200000) (hbase : base ≤ w.heap.size)
    (h : ∀ v' w', TR base w' v' (ts ++ new) → Grew w w' v v' → wpList Tryd.prog ops Q rest (a.put o.dst v') w') : wpList Tryd.prog ops Q (o :: rest) a w := by
  obtain ⟨i0, hi, hz0, hz1, hz2⟩ := info_parts2 vinfo_tok
  refine wpList_append_lies w hgd s x 29 ho base 49 i0 (.agg #[.int .i64 0, .string ⟨#[]⟩]) 2 24 Tryd.underlying29 hi hz0 hz1 hz2 rfl (by decide) v _ _ hs hown ⟨g, 0, none⟩ m c (cellsT new) hx (by rw [cellsT_len, hm]) hnew (cellsT_one _) hm0 (by unfold maxLen; omega) (by omega) hbase _ rfl ?_
  intro g' cap' w' h1 h2 h3 _
  refine h _ w' ?_ ⟨h2, fun b hb => ?_⟩
  · unfold TR
    rw [List.length_append, hm, cellsT_app]
    exact h1
  · have e : g' = b := by
      have : some g' = some b := hb
      injection this
    subst e
    rcases h3 with h3 | h3
    · exact .inl h3
    · exact .inr (by omega)
theorem step_append_tok {w : World} {ops : Array Oper} {o : Oper} {a : Act} {K : Act → World → Prop} {Q : Exit → Act → World → Prop} {E : Prop} (hgd : o.guard = none) (s x : Operand)
    (ho : o.op = .call { callee := .builtin .append, args := #[s, x], argTypes := #[29, 29] })
    (base : Nat) (v : Value) (ts : List (Int × ByteArray)) (hs : a.eval s = v) (hown : TR base w v ts) (g m c : Nat) (new : List (Int × ByteArray)) (hx : a.eval x = .slice (some ⟨g, 0, none⟩) m c) (hm : new.length = m)
    (hnew : ∀ (j : Nat) u, (cellsT new)[j]? = some u → w.cell? ((⟨g, 0, none⟩ : Addr).add j) = some u) (hm0 : 0 < m) (hlen : ts.length + m ≤ 200000) (hbase : base ≤ w.heap.size)
    (h : ∀ v' w', TR base w' v' (ts ++ new) → Grew w w' v v' → K (a.put o.dst v') w') : if Region.wanted o (yielded ops a.tmps) = true then Oper.wp Tryd.prog o a w K Q else E := by
  obtain ⟨i0, hi, hz0, hz1, hz2⟩ := info_parts2 vinfo_tok
  refine step_append_lies w hgd s x 29 ho base 49 i0 (.agg #[.int .i64 0, .string ⟨#[]⟩]) 2 24 Tryd.underlying29 hi hz0 hz1 hz2 rfl (by decide) v _ _ hs hown ⟨g, 0, none⟩ m c (cellsT new) hx (by rw [cellsT_len, hm]) hnew (cellsT_one _) hm0 (by unfold maxLen; omega) (by omega) hbase _ rfl ?_
  intro g' cap' w' h1 h2 h3 _
  refine h _ w' ?_ ⟨h2, fun b hb => ?_⟩
  · unfold TR
    rw [List.length_append, hm, cellsT_app]
    exact h1
  · have e : g' = b := by
      have : some g' = some b := hb
      injection this
    subst e
    rcases h3 with h3 | h3
    · exact .inl h3
    · exact .inr (by omega)
theorem tok_new1 (w : World) (k : Int) (s : ByteArray) (t : TypeId) {g : Nat} (hg : g = w.heap.size) : ∀ (j : Nat) u, (cellsT [(k, s)])[j]? = some u → (w.alloc (.cells #[.int .i64 k, .string s] t)).cell? ((⟨g, 0, none⟩ : Addr).add j) = some u := by
  subst hg
  intro j u hu
  rw [add_at, Nat.zero_add]
  match j, hu with
  | 0, hu => cases hu; rw [World.cell?_alloc_at _ _ _ _ rfl]; rfl
  | 1, hu => cases hu; rw [World.cell?_alloc_at _ _ _ _ rfl]; rfl
theorem tok_new2 (w : World) (k k' : Int) (s s' : ByteArray) (t : TypeId) {g : Nat} (hg : g = w.heap.size) : ∀ (j : Nat) u, (cellsT [(k, s), (k', s')])[j]? = some u → (w.alloc (.cells #[.int .i64 k, .string s, .int .i64 k', .string s'] t)).cell? ((⟨g, 0, none⟩ : Addr).add j) = some u := by
  subst hg
  intro j u hu
  rw [add_at, Nat.zero_add]
  match j, hu with
  | 0, hu => cases hu; rw [World.cell?_alloc_at _ _ _ _ rfl]; rfl
  | 1, hu => cases hu; rw [World.cell?_alloc_at _ _ _ _ rfl]; rfl
  | 2, hu => cases hu; rw [World.cell?_alloc_at _ _ _ _ rfl]; rfl
  | 3, hu => cases hu; rw [World.cell?_alloc_at _ _ _ _ rfl]; rfl
/-- The end of a function that answers a token out of a cell. -/
theorem ret_t1 {R : Ending → World → Prop} {fn : Func} {a : Act} {W : World} {c0 c1 : Value} {p b : Nat} (hf : fn.results = #[.cell p 49]) (h2 : a.tmps.getD p undef = .pointer (some ⟨b, 0, none⟩)) (hd : a.defers = [])
    (hc : W.heap[b]? = some (.cells #[c0, c1] 49 (0, 0))) (hR : R (.returned (.agg #[c0, c1])) W) : bodyPost Tryd.prog fn R .ret a W := by
  have hl : (loadVar 49 ⟨b, 0, none⟩).run Tryd.prog W = .ok (.agg #[c0, c1]) W :=
    run_loadVar_row W b 49 49 #[c0, c1] (0, 0) _ hc Tryd.underlying49 rfl (by kernel_rfl)
  refine bodyPost_ret ?_ hd hR
  have h2' : a.tmps[p]?.getD undef = .pointer (some ⟨b, 0, none⟩) := by rw [← h2]; simp
  simp [results, hf, h2', asAddr, hl]
theorem vword_any (s : ByteArray) (w : World) : Calls Tryd.prog 50 #[.string s] w fun e w' => e = .returned (.agg #[.int .i64 2, .string s]) ∧ Below w.heap.size w w' := by
  go_enter Tryd.func50, Tryd.ntmps50
  go_wp2_with fail
  exact ret_t1 rfl rfl rfl (heap_alloc_new _ _) ⟨rfl, (Below.refl _ _).alloc (Nat.le_refl _) _⟩
theorem vpunct_any (s : ByteArray) (w : World) : Calls Tryd.prog 54 #[.string s] w fun e w' => e = .returned (.agg #[.int .i64 1, .string s]) ∧ Below w.heap.size w w' := by
  go_enter Tryd.func54, Tryd.ntmps54
  go_wp2_with fail
  exact ret_t1 rfl rfl rfl (heap_alloc_new _ _) ⟨rfl, (Below.refl _ _).alloc (Nat.le_refl _) _⟩
theorem two_cells {w : World} {b : Nat} {z0 z1 : Value} {t : TypeId} (h : w.heap[b]? = some (.cells #[z0, z1] t (0, 0))) : w.cell? ⟨b, 0, none⟩ = some z0 ∧ w.cell? ⟨b, 1, none⟩ = some z1 ∧ w.frozen? ⟨b, 0, none⟩ = false ∧ w.frozen? ⟨b, 1, none⟩ = false := by
  refine ⟨?_, ?_, ?_, ?_⟩
  · simp only [World.cell?, h]; rfl
  · simp only [World.cell?, h]; rfl
  · simp [World.frozen?, h]
  · simp [World.frozen?, h]
theorem two_set {w : World} {b : Nat} {z0 z1 v0 v1 : Value} {t : TypeId} (h : w.heap[b]? = some (.cells #[z0, z1] t (0, 0))) : ((w.setCell ⟨b, 0, none⟩ v0).setCell ⟨b, 1, none⟩ v1).heap[b]? = some (.cells #[v0, v1] t (0, 0)) :=
  heap_setCell_same _ b 1 _ _ _ (heap_setCell_same _ b 0 _ _ _ h)
def truthT (n : Int) : ByteArray := if n = 1 then trueT else falseT
set_option maxRecDepth 100000 in
theorem vtruth_any (n : Int) (w : World) : Calls Tryd.prog 51 #[.int .i64 n] w fun e w' => e = .returned (.agg #[.int .i64 2, .string (truthT n)]) ∧ Below w.heap.size w w' := by
  have hb0 := Lib.hid (fun o => (Below.refl w.heap.size w).alloc (Nat.le_refl _) o)
  have hc0 := Lib.hid (heap_alloc_new w (.cells #[.int .i64 0, .string ⟨#[]⟩] 49))
  have hsz : Hid ((w.alloc (.cells #[.int .i64 0, .string ⟨#[]⟩] 49)).heap.size = w.heap.size + 1) := Lib.hid (by simp)
  by_cases h1 : n = 1
  · subst h1
    go_enter Tryd.func51, Tryd.ntmps51
    go_wp2_with fail
    refine (vword_any _ _).mono ?_
    rintro e w2 ⟨rfl, hb⟩
    have hc2 := (hb.block w.heap.size (by rw [hsz.out]; omega)).trans hc0.out
    have HC2 := Lib.hid hc2
    have HB := Lib.hid ((hb0.out _).trans (hb.mono (by rw [hsz.out]; omega)))
    obtain ⟨g0, g1, g2, g3⟩ := two_cells hc2
    clear hb hc2
    go_wp2_with fail
    exact ret_t1 rfl rfl rfl (two_set HC2.out) ⟨rfl, (HB.out.setCell (p := ⟨_, _, none⟩) (Nat.le_refl _) _).setCell (p := ⟨_, _, none⟩) (Nat.le_refl _) _⟩
  · have e1 : (n == 1) = false := by simpa using h1
    have ht : truthT n = falseT := by unfold truthT; rw [if_neg h1]
    rw [ht]
    clear h1 ht
    go_enter Tryd.func51, Tryd.ntmps51
    go_wp2_with fail
    refine (vword_any _ _).mono ?_
    rintro e w2 ⟨rfl, hb⟩
    have hc2 := (hb.block w.heap.size (by rw [hsz.out]; omega)).trans hc0.out
    have HC2 := Lib.hid hc2
    have HB := Lib.hid ((hb0.out _).trans (hb.mono (by rw [hsz.out]; omega)))
    obtain ⟨g0, g1, g2, g3⟩ := two_cells hc2
    clear hb hc2
    go_wp2_with fail
    exact ret_t1 rfl rfl rfl (two_set HC2.out) ⟨rfl, (HB.out.setCell (p := ⟨_, _, none⟩) (Nat.le_refl _) _).setCell (p := ⟨_, _, none⟩) (Nat.le_refl _) _⟩
end Go.Proofs.YtcdcfhplkimecaaDoor
