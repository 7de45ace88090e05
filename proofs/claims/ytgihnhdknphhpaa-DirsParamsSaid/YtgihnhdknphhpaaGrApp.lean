/- Rows of selections put together. -/
import Derived.Test.YtgihnhdknphhpaaGrNet
namespace Go.Proofs.Ytgihnhdknphhpaa
open Go.RowKit

/-- append of a row, whatever it has, at a step of a region. -/
theorem gstep_rowA {P : Program} {w : World} {ops : Array Oper} {o : Oper} {a : Act} {K : Act → World → Prop} {Q : Exit → Act → World → Prop} {E : Prop} (hgd : o.guard = none) (s x : Operand) (t : TypeId)
    (ho : o.op = .call { callee := .builtin .append, args := #[s, x], argTypes := #[t, t] })
    (base : Nat) (e : TypeId) (i : TypeInfo) (z : Value) (size bytes : Nat) (ht : P.underlying t = some (.slice e)) (hi : P.info? e = some i) (hz : i.zero = some z)
    (hsize : i.size = size) (hby : i.bytes = bytes) (hzs : z.cells.size = size) (hsz : 0 < size)
    (v : Value) (n : Nat) (xs : List Value) (hs : a.eval s = v) (hown : w.ownsRow base e size v n xs)
    (A : Option Addr) (m c : Nat) (news : List Value) (hx : a.eval x = .slice A m c) (hl : news.length = m * size) (hnews : ∀ (j : Nat) u, news[j]? = some u → ∃ b o, A = some ⟨b, o, none⟩ ∧ w.cell? ⟨b, o + j, none⟩ = some u) (h1 : ∀ u ∈ news, u.oneCell' = true)
    (h63 : n + m ≤ maxLen) (hbytes : (n + m) * bytes ≤ 140737488355328) (hbase : base ≤ w.heap.size)
    (h : ∀ v' w', w'.ownsRow base e size v' (n + m) (xs ++ news) → w.grownBy w' v.ownBlock → K (a.put o.dst v') w') : if Region.wanted o (yielded ops a.tmps) = true then Oper.wp P o a w K Q else E := by
  cases A with
  | some ad =>
    exact gstep_app hgd s x t ho base e i z size bytes ht hi hz hsize hby hzs hsz v n xs hs hown ad m c news hx hl (fun j u hj => by
      obtain ⟨b, o, e, hc⟩ := hnews j u hj
      rw [Option.some.inj e, add_at]
      exact hc) h1 h63 hbytes hbase (fun v' w' h2 h3 _ => h v' w' h2 h3)
  | none =>
    have hn : news = [] := by
      cases news with
      | nil => rfl
      | cons u us =>
        obtain ⟨_, _, e, _⟩ := hnews 0 u rfl
        cases e
    subst hn
    have hm : m = 0 := by
      have : m * size = 0 := by simpa using hl.symm
      rcases Nat.mul_eq_zero.1 this with h | h
      · exact h
      · omega
    subst hm
    have hw : Region.wanted o (yielded ops a.tmps) = true := by simp [Region.wanted, hgd]
    rw [if_pos hw]
    have hrun : (Builtin.append_ #[t, t] o.type #[v, .slice none 0 c]).run P w = .ok v w := by
      rcases hown.2 with ⟨rfl, rfl⟩ | ⟨g, cap, cur, rfl, _, _, hnc, _⟩
      · simp [Builtin.append_, run_underlying ht, sizeOf, typeInfo, hi, Builtin.lenOf, Builtin.firstCells]
      · simp [Builtin.append_, run_underlying ht, sizeOf, typeInfo, hi, Builtin.lenOf, Builtin.firstCells, hnc, storeCells]
    unfold Oper.wp
    simp [execOp, ho, resolve, invoke, builtin, hs, hx, hrun, Result.andThen]
    refine h v w ?_ ⟨rfl, rfl, rfl, Nat.le_refl _, fun _ _ _ => rfl⟩
    rw [List.append_nil, Nat.add_zero]
    exact hown
/-- The cells of selections, one behind the other. -/
def FlatS (w : World) (B : Nat) : List SelT → List Value → Prop
  | [], xs => xs = []
  | x :: t, xs => ∃ cs ys, xs = cs ++ ys ∧ SelAt w B x cs ∧ FlatS w B t ys
theorem SelAt.len {w : World} {B : Nat} {x : SelT} {cs : List Value} (h : SelAt w B x cs) : cs.length = 7 := by
  obtain ⟨Ag, kg, Ad, kd, As, ks, rfl, _⟩ := h
  rfl
theorem SelAt.one {w : World} {B : Nat} {x : SelT} {cs : List Value} (h : SelAt w B x cs) : ∀ u ∈ cs, u.oneCell' = true := by
  obtain ⟨Ag, kg, Ad, kd, As, ks, rfl, _⟩ := h
  intro u hu
  simp only [List.mem_cons, List.not_mem_nil, or_false] at hu
  rcases hu with rfl | rfl | rfl | rfl | rfl | rfl | rfl <;> rfl
theorem FlatS.len {w : World} {B : Nat} : ∀ {l : List SelT} {xs : List Value}, FlatS w B l xs → xs.length = l.length * 7
  | [], _, h => by have h : _ = [] := h; subst h; rfl
  | x :: t, xs, h => by
    obtain ⟨cs, ys, rfl, h1, h2⟩ := h
    rw [List.length_append, h1.len, h2.len, List.length_cons]
    omega
theorem FlatS.one {w : World} {B : Nat} : ∀ {l : List SelT} {xs : List Value}, FlatS w B l xs → ∀ u ∈ xs, u.oneCell' = true
  | [], _, h, u, hu => by have h : _ = [] := h; subst h; cases hu
  | x :: t, xs, h, u, hu => by
    obtain ⟨cs, ys, rfl, h1, h2⟩ := h
    rcases List.mem_append.1 hu with hu | hu
    · exact h1.one u hu
    · exact h2.one u hu
theorem FlatS.keep {w w' : World} {B B' : Nat} (hB : B ≤ B') (hP : ∀ b, b < B → w'.heap[b]? = w.heap[b]?) : ∀ {l : List SelT} {xs : List Value}, FlatS w B l xs → FlatS w' B' l xs
  | [], _, h => h
  | x :: t, xs, h => by
    obtain ⟨cs, ys, e, h1, h2⟩ := h
    exact ⟨cs, ys, e, h1.keep hB hP, h2.keep hB hP⟩
theorem FlatS.app {w : World} {B : Nat} {m : List SelT} {ys : List Value} (hm : FlatS w B m ys) : ∀ {l : List SelT} {xs : List Value}, FlatS w B l xs → FlatS w B (l ++ m) (xs ++ ys)
  | [], xs, h => by
    have h : xs = [] := h
    subst h
    exact hm
  | x :: t, xs, h => by
    obtain ⟨cs, zs, rfl, h1, h2⟩ := h
    exact ⟨cs, zs ++ ys, by rw [List.append_assoc], h1, FlatS.app hm h2⟩
theorem sels_flat {w : World} {B : Nat} : ∀ {l : SelL} {A : Option Addr}, SelsAt w B l A → ∃ xs, FlatS w B l.ls xs ∧ ∀ (j : Nat) u, xs[j]? = some u → ∃ b o, A = some ⟨b, o, none⟩ ∧ w.cell? ⟨b, o + j, none⟩ = some u
  | .nil, A, _ => ⟨[], rfl, fun j u hj => by simp at hj⟩
  | .cons x t, A, h => by
    obtain ⟨b, o, Ag, kg, Ad, kd, As, ks, rfl, hb, ⟨f0, f1, f2, f3, f4, f5, f6⟩, hX, hR⟩ := h.head
    obtain ⟨ys, h1, h2⟩ := sels_flat hR
    refine ⟨_ ++ ys, ⟨_, ys, rfl, hX, h1⟩, fun j u hj => ⟨b, o, rfl, ?_⟩⟩
    rcases Nat.lt_or_ge j 7 with hj7 | hj7
    · rw [List.getElem?_append_left (by exact hj7)] at hj
      match j, hj7, hj with
      | 0, _, hj => rw [← Option.some.inj hj]; exact f0
      | 1, _, hj => rw [← Option.some.inj hj]; exact f1
      | 2, _, hj => rw [← Option.some.inj hj]; exact f2
      | 3, _, hj => rw [← Option.some.inj hj]; exact f3
      | 4, _, hj => rw [← Option.some.inj hj]; exact f4
      | 5, _, hj => rw [← Option.some.inj hj]; exact f5
      | 6, _, hj => rw [← Option.some.inj hj]; exact f6
    · rw [List.getElem?_append_right (by exact hj7)] at hj
      obtain ⟨b', o', e, hc⟩ := h2 _ u hj
      injection e with e
      injection e with e1 e2
      subst e1 e2
      have : o + 7 + (j - 7) = o + j := by omega
      rw [← this]
      exact hc
theorem flat_sels {w : World} {B g : Nat} (hg : g < B) : ∀ {l : List SelT} {xs : List Value} (o : Nat), FlatS w B l xs → (∀ (j : Nat) u, xs[j]? = some u → w.cell? ⟨g, o + j, none⟩ = some u) → SelsAt w B (toSL l) (some ⟨g, o, none⟩)
  | [], _, _, _, _ => SelsAt.nil _
  | x :: t, xs, o, h, hc => by
    obtain ⟨cs, ys, rfl, hX, h2⟩ := h
    have hl := hX.len
    have ih := flat_sels hg (o + 7) h2 (fun j u hj => by
      have := hc (7 + j) u (by rw [List.getElem?_append_right (by omega), hl, Nat.add_sub_cancel_left]; exact hj)
      rwa [← Nat.add_assoc] at this)
    have hcc : ∀ (j : Nat) u, cs[j]? = some u → w.cell? ⟨g, o + j, none⟩ = some u := fun j u hj => hc j u (by rw [List.getElem?_append_left (List.getElem?_eq_some_iff.1 hj).1]; exact hj)
    obtain ⟨Ag, kg, Ad, kd, As, ks, rfl, hT, hk, hS, hs⟩ := hX
    rw [toSL]
    refine ⟨?_, ?_⟩
    · rw [encSL]
      unfold RowT
      exact ⟨g, o, _, rfl, hg, hcc, hT, by rw [encS_len]; exact ih.1⟩
    · rw [CapL]
      exact ⟨g, o, As, ks, rfl, hg, hcc 6 _ rfl, hk, by rw [capX_eq]; exact hS.2, ih.2⟩
theorem gsel_row : ∃ i z, Try.prog.info? 42 = some i ∧ i.zero = some z ∧ i.size = 7 ∧ i.bytes = 128 ∧ z.cells.size = 7 := ginfo_of (by kernel_rfl)
/-- A row of one's own with selections. -/
theorem own_sels {w : World} {base B : Nat} {V : Value} {l : List SelT} {xs : List Value} (h : w.ownsRow base 42 7 V l.length xs) (hF : FlatS w B l xs) (hB : B ≤ w.heap.size) : ∃ A c, V = .slice A (toSL l).len c ∧ (toSL l).len ≤ c ∧ SelsAt w w.heap.size (toSL l) A := by
  have h0 := h
  obtain ⟨_, h2⟩ := h
  rcases h2 with ⟨rfl, hl⟩ | ⟨g, cap, cur, rfl, hb, hg, hn, _⟩
  · have : l = [] := List.eq_nil_of_length_eq_zero hl
    subst this
    exact ⟨none, 0, rfl, Nat.le_refl _, SelsAt.nil _⟩
  · refine ⟨_, cap, by rw [toSL_len], by rw [toSL_len]; exact hn, flat_sels (Array.getElem?_eq_some_iff.1 hg).1 0 (hF.keep hB (fun _ _ => rfl)) (fun j u hj => ?_)⟩
    have := h0.cells (g := g) rfl j u hj
    rwa [add_at] at this
end Go.Proofs.Ytgihnhdknphhpaa
