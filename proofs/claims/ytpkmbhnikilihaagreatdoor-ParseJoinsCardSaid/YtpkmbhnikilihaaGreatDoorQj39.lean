/- Rows put together by append. -/
import Derived.Test.YtpkmbhnikilihaaGreatDoorQj38
import Derived.Test.YtpkmbhnikilihaaGreatDoorCards
import Derived.Test.YtpkmbhnikilihaaGreatDoorTie
import Derived.OpenShut
import Derived.Deep.DeepHandedRow
import Derived.Lib.LaidU8
import Derived.Lay
import Derived.MakeChecks
import Derived.SizedLaws
namespace Go.Proofs.YtpkmbhnikilihaaGreatDoor
open Go.RowKit

/-- The cells of a row. -/
theorem row_cells {α : Type} {f : α → TrS} {w : World} {P : Nat → Prop} (n : Nat) (hn : ∀ a, (f a).len = n) : ∀ {l : List α} {A : Option Addr}, RowT w P (rowOf f l) A →
    ∃ xs, TLV w P (rowOf f l) xs ∧ xs.length = l.length * n ∧ ∀ j u, xs[j]? = some u → ∃ b o, A = some ⟨b, o, none⟩ ∧ P b ∧ w.cell? ⟨b, o + j, none⟩ = some u
  | [], A, _ => ⟨[], rfl, by simp, fun j u h => by simp at h⟩
  | a :: t, A, h => by
    rw [rowOf] at h
    unfold RowT at h
    obtain ⟨b, o, cs, e, hb, hc, h1, h2⟩ := h
    obtain ⟨ys, t1, t2, t3⟩ := row_cells n hn h2
    have hl : cs.length = n := by rw [h1.len, hn]
    refine ⟨cs ++ ys, ⟨cs, ys, rfl, h1, t1⟩, by rw [List.length_append, hl, t2, List.length_cons, Nat.add_mul, Nat.one_mul, Nat.add_comm], fun j u hj => ?_⟩
    by_cases hjn : j < cs.length
    · rw [List.getElem?_append_left hjn] at hj
      exact ⟨b, o, e, hb, hc j u hj⟩
    · rw [List.getElem?_append_right (by omega)] at hj
      obtain ⟨b', o', e', _, hc'⟩ := t3 _ u hj
      have e' := Option.some.inj e'
      injection e' with e1 e2 _
      subst e1 e2
      refine ⟨b, o, e, hb, ?_⟩
      rw [hn] at hc'
      rw [show o + j = o + n + (j - cs.length) by omega]
      exact hc'
theorem tlv_app {α : Type} {f : α → TrS} {w : World} {P : Nat → Prop} {m : List α} {ys : List Value} (hm : TLV w P (rowOf f m) ys) : ∀ {l : List α} {xs : List Value}, TLV w P (rowOf f l) xs → TLV w P (rowOf f (l ++ m)) (xs ++ ys)
  | [], xs, h => by
    have : xs = [] := h
    subst this
    exact hm
  | a :: t, xs, h => by
    obtain ⟨cs, zs, rfl, h1, h2⟩ := h
    exact ⟨cs, zs ++ ys, by simp, h1, tlv_app hm h2⟩
theorem run_append_no {P : Program} (w : World) (base : Nat) (t ty e : TypeId) (i : TypeInfo) (size : Nat) (ht : P.underlying t = some (.slice e)) (hi : P.info? e = some i)
    (v : Value) (n c : Nat) (xs : List Value) (hown : w.ownsRow base e size v n xs) :
    (Builtin.append_ #[t, t] ty #[v, .slice none 0 c]).run P w = .ok v w := by
  rcases hown.2 with ⟨rfl, rfl⟩ | ⟨g, cap, cur, rfl, _, _, hnc, _⟩
  · simp [Builtin.append_, run_underlying ht, sizeOf, typeInfo, hi, Builtin.lenOf, Builtin.firstCells]
  · simp [Builtin.append_, run_underlying ht, sizeOf, typeInfo, hi, Builtin.lenOf, Builtin.firstCells, hnc, storeCells]
/-- A row behind one's own, whatever it has. -/
theorem wp_app_row {P : Program} {w : World} {o : Oper} {a : Act} {K : Act → World → Prop} {Q : Exit → Act → World → Prop} (s x : Operand) (t : TypeId)
    (ho : o.op = .call { callee := .builtin .append, args := #[s, x], argTypes := #[t, t] })
    (base : Nat) (e : TypeId) (i : TypeInfo) (z : Value) (size bytes : Nat) (ht : P.underlying t = some (.slice e)) (hi : P.info? e = some i) (hz : i.zero = some z)
    (hsize : i.size = size) (hby : i.bytes = bytes) (hzs : z.cells.size = size) (hsz : 0 < size)
    (v : Value) (n : Nat) (xs : List Value) (hs : a.eval s = v) (hown : w.ownsRow base e size v n xs)
    (A : Option Addr) (m c : Nat) (news : List Value) (hx : a.eval x = .slice A m c) (hl : news.length = m * size) (hnews : ∀ j u, news[j]? = some u → ∃ b o, A = some ⟨b, o, none⟩ ∧ w.cell? ⟨b, o + j, none⟩ = some u) (h1 : ∀ u ∈ news, u.oneCell' = true)
    (h63 : n + m ≤ maxLen) (hbytes : (n + m) * bytes ≤ 140737488355328) (hbase : base ≤ w.heap.size)
    (h : ∀ v' w', w'.ownsRow base e size v' (n + m) (xs ++ news) → w.grownBy w' v.ownBlock → K (a.put o.dst v') w') : o.wp P a w K Q := by
  cases A with
  | some ad =>
    refine wp_append_own w s x t ho base e i z size bytes ht hi hz hsize hby hzs hsz v n xs hs hown ad m c news hx hl (fun j u hj => ?_) h1 h63 hbytes hbase (fun v' w' h2 h3 _ => h v' w' h2 h3)
    obtain ⟨b, o, e, hc⟩ := hnews j u hj
    rw [Option.some.inj e]
    have hadd : (⟨b, o, none⟩ : Addr).add j = ⟨b, o + j, none⟩ := by unfold Addr.add; split <;> simp_all
    rw [hadd]; exact hc
  | none =>
    have hn : news = [] := by
      cases news with
      | nil => rfl
      | cons u us =>
        obtain ⟨_, _, e, _⟩ := hnews 0 u rfl
        cases e
    subst hn
    have hm : m = 0 := by
      have : m * size = 0 := by simpa using hl.symm
      rcases Nat.mul_eq_zero.1 this with h | h
      · exact h
      · omega
    subst hm
    have hr := run_append_no (P := P) w base t o.type e i size ht hi v n c xs hown
    unfold Oper.wp execOp
    simp only [ho, resolve, invoke, builtin, Sem.run_bind, Sem.run_pure, Result.andThen_ok, List.map_toArray, List.map_cons, List.map_nil, hs, hx, hr]
    refine h v w ?_ ⟨rfl, rfl, rfl, Nat.le_refl _, fun _ _ _ => rfl⟩
    rw [List.append_nil, Nat.add_zero]; exact hown
/-- Two rows of two kinds are not one. -/
theorem own_apart {w : World} {base base' e e' size size' n n' : Nat} {v v' : Value} {xs xs' : List Value} (he : e ≠ e') (h : w.ownsRow base e size v n xs) (h' : w.ownsRow base' e' size' v' n' xs') : v.ownBlock = none ∨ v'.ownBlock ≠ v.ownBlock := by
  rcases h.2 with ⟨rfl, _⟩ | ⟨g, c, cur, rfl, _, hg, _⟩
  · exact .inl rfl
  · refine .inr fun hh => ?_
    rcases h'.2 with ⟨rfl, _⟩ | ⟨g', c', cur', rfl, _, hg', _⟩
    · cases hh
    · have : g' = g := by simpa [Value.ownBlock] using hh
      subst this
      rw [hg] at hg'
      have := Option.some.inj hg'
      injection this with _ e2 _
      exact he e2
/-- A row of another kind stands when one grows. -/
theorem own_beside {w w' : World} {base base' e e' size size' n n' : Nat} {v v' : Value} {xs xs' : List Value} (he : e ≠ e') (h : w.ownsRow base e size v n xs) (h' : w.ownsRow base' e' size' v' n' xs') (hg : w.grownBy w' v.ownBlock) : w'.ownsRow base' e' size' v' n' xs' := by
  refine World.ownsRow.kept h' hg ?_
  rcases own_apart he h h' with hn | hn
  · cases hv : v'.ownBlock with
    | none => exact .inl rfl
    | some k => exact .inr (by rw [hn]; simp)
  · cases hv : v'.ownBlock with
    | none => exact .inl rfl
    | some k => exact .inr (fun e2 => hn (by rw [hv, e2]))
theorem step_app_row {P : Program} {w : World} {ops : Array Oper} {o : Oper} {a : Act} {K : Act → World → Prop} {Q : Exit → Act → World → Prop} {E : Prop} (hgd : o.guard = none) (s x : Operand) (t : TypeId)
    (ho : o.op = .call { callee := .builtin .append, args := #[s, x], argTypes := #[t, t] })
    (base : Nat) (e : TypeId) (i : TypeInfo) (z : Value) (size bytes : Nat) (ht : P.underlying t = some (.slice e)) (hi : P.info? e = some i) (hz : i.zero = some z)
    (hsize : i.size = size) (hby : i.bytes = bytes) (hzs : z.cells.size = size) (hsz : 0 < size)
    (v : Value) (n : Nat) (xs : List Value) (hs : a.eval s = v) (hown : w.ownsRow base e size v n xs)
    (A : Option Addr) (m c : Nat) (news : List Value) (hx : a.eval x = .slice A m c) (hl : news.length = m * size) (hnews : ∀ j u, news[j]? = some u → ∃ b o, A = some ⟨b, o, none⟩ ∧ w.cell? ⟨b, o + j, none⟩ = some u) (h1 : ∀ u ∈ news, u.oneCell' = true)
    (h63 : n + m ≤ maxLen) (hbytes : (n + m) * bytes ≤ 140737488355328) (hbase : base ≤ w.heap.size)
    (h : ∀ v' w', w'.ownsRow base e size v' (n + m) (xs ++ news) → w.grownBy w' v.ownBlock → K (a.put o.dst v') w') :
    if Region.wanted o (yielded ops a.tmps) = true then Oper.wp P o a w K Q else E := by
  have hw : Region.wanted o (yielded ops a.tmps) = true := by simp [Region.wanted, hgd]
  rw [if_pos hw]
  exact wp_app_row s x t ho base e i z size bytes ht hi hz hsize hby hzs hsz v n xs hs hown A m c news hx hl hnews h1 h63 hbytes hbase h
theorem below_grown {w w' : World} {base e size n : Nat} {v : Value} {xs : List Value} (h : w.ownsRow base e size v n xs) (hg : w.grownBy w' v.ownBlock) (hB : base ≤ w.heap.size) : Below base w w' :=
  ⟨hg.os, hg.tape, hg.output, hg.size, fun k hk => by
    refine hg.block k (by omega) (fun e2 => ?_)
    rcases h.2 with ⟨rfl, _⟩ | ⟨g, c, cur, rfl, hbg, _⟩
    · cases e2
    · have : k = g := by simpa [Value.ownBlock] using e2
      omega⟩
/-- Two rows of one's own, and the box of a document. -/
structure AB (w0 w : World) (V1 : Value) (n1 : Nat) (xs1 : List Value) (V2 : Value) (n2 : Nat) (xs2 : List Value) (D : Option Nat) : Prop where
  r1 : w.ownsRow w0.heap.size 68 5 V1 n1 xs1
  r2 : w.ownsRow w0.heap.size 87 4 V2 n2 xs2
  bl : Below w0.heap.size w0 w
  bx : ∀ b, D = some b → w0.heap.size ≤ b ∧ w.heap[b]? = some (.cells #[.slice none 0 0, .slice none 0 0] 26 (0, 0))
theorem AB.start (w : World) : AB w w (.slice none 0 0) 0 [] (.slice none 0 0) 0 [] none := ⟨World.ownsRow_nil _ _ _ _, World.ownsRow_nil _ _ _ _, Below.refl _ _, fun _ h => by cases h⟩
theorem own_box {w : World} {base e size n b : Nat} {v : Value} {xs : List Value} {cs : Array Value} {ty : TypeId} {f : Nat × Nat} (he : e ≠ ty) (h : w.ownsRow base e size v n xs) (hb : w.heap[b]? = some (.cells cs ty f)) : v.ownBlock ≠ some b := by
  intro e2
  rcases h.2 with ⟨rfl, _⟩ | ⟨g, c, cur, rfl, _, hg, _⟩
  · cases e2
  · have : g = b := by simpa [Value.ownBlock] using e2
    subst this
    rw [hg] at hb
    have := Option.some.inj hb
    injection this with _ e3 _
    exact he e3
theorem AB.op {w0 w w' : World} {V1 V2 V1' : Value} {n1 n2 m : Nat} {xs1 xs2 news : List Value} {D : Option Nat} (h : AB w0 w V1 n1 xs1 V2 n2 xs2 D) (hown : w'.ownsRow w0.heap.size 68 5 V1' (n1 + m) (xs1 ++ news)) (hg : w.grownBy w' V1.ownBlock) : AB w0 w' V1' (n1 + m) (xs1 ++ news) V2 n2 xs2 D :=
  ⟨hown, own_beside (by decide) h.r1 h.r2 hg, h.bl.trans (below_grown h.r1 hg h.bl.size), fun b e => ⟨(h.bx b e).1, (hg.block b (Array.getElem?_eq_some_iff.1 (h.bx b e).2).1 (own_box (by decide) h.r1 (h.bx b e).2).symm).trans (h.bx b e).2⟩⟩
theorem AB.fr {w0 w w' : World} {V1 V2 V2' : Value} {n1 n2 m : Nat} {xs1 xs2 news : List Value} {D : Option Nat} (h : AB w0 w V1 n1 xs1 V2 n2 xs2 D) (hown : w'.ownsRow w0.heap.size 87 4 V2' (n2 + m) (xs2 ++ news)) (hg : w.grownBy w' V2.ownBlock) : AB w0 w' V1 n1 xs1 V2' (n2 + m) (xs2 ++ news) D :=
  ⟨own_beside (by decide) h.r2 h.r1 hg, hown, h.bl.trans (below_grown h.r2 hg h.bl.size), fun b e => ⟨(h.bx b e).1, (hg.block b (Array.getElem?_eq_some_iff.1 (h.bx b e).2).1 (own_box (by decide) h.r2 (h.bx b e).2).symm).trans (h.bx b e).2⟩⟩
theorem AB.box {w0 w : World} {V1 V2 : Value} {n1 n2 : Nat} {xs1 xs2 : List Value} (h : AB w0 w V1 n1 xs1 V2 n2 xs2 none) : AB w0 (w.alloc (.cells #[.slice none 0 0, .slice none 0 0] 26)) V1 n1 xs1 V2 n2 xs2 (some w.heap.size) :=
  ⟨own_low h.r1 ((Below.refl _ _).alloc (Nat.le_refl _) _), own_low h.r2 ((Below.refl _ _).alloc (Nat.le_refl _) _), h.bl.alloc h.bl.size _, fun b e => by
    have := Option.some.inj e
    subst this
    exact ⟨h.bl.size, heap_alloc_new _ _⟩⟩
theorem sh01 {G : Nat → World → Prop} {T : Prop} {Pre : Nat → World → Prop} (tree : (∀ e f, Pre e f → G e f) → T) (leaf : ∀ e f, Pre e f → G e f) : T := tree leaf
theorem sh10 {G : Value → World → Prop} {T : Prop} {Pre : Value → World → Prop} (tree : (∀ a f, Pre a f → G a f) → T) (leaf : ∀ a f, Pre a f → G a f) : T := tree leaf
theorem sh11 {G : Value → Nat → World → Prop} {T : Prop} {Pre : Value → Nat → World → Prop} (tree : (∀ a e f, Pre a e f → G a e f) → T) (leaf : ∀ a e f, Pre a e f → G a e f) : T := tree leaf
theorem sh20 {G : Value → Value → World → Prop} {T : Prop} {Pre : Value → Value → World → Prop} (tree : (∀ a b f, Pre a b f → G a b f) → T) (leaf : ∀ a b f, Pre a b f → G a b f) : T := tree leaf
theorem sh21 {G : Value → Value → Nat → World → Prop} {T : Prop} {Pre : Value → Value → Nat → World → Prop} (tree : (∀ a b e f, Pre a b e f → G a b e f) → T) (leaf : ∀ a b e f, Pre a b e f → G a b e f) : T := tree leaf
theorem sh30 {G : Value → Value → Value → World → Prop} {T : Prop} {Pre : Value → Value → Value → World → Prop} (tree : (∀ a b c f, Pre a b c f → G a b c f) → T) (leaf : ∀ a b c f, Pre a b c f → G a b c f) : T := tree leaf
theorem sh31 {G : Value → Value → Value → Nat → World → Prop} {T : Prop} {Pre : Value → Value → Value → Nat → World → Prop} (tree : (∀ a b c e f, Pre a b c e f → G a b c e f) → T) (leaf : ∀ a b c e f, Pre a b c e f → G a b c e f) : T := tree leaf
theorem sh40 {G : Value → Value → Value → Value → World → Prop} {T : Prop} {Pre : Value → Value → Value → Value → World → Prop} (tree : (∀ a b c d f, Pre a b c d f → G a b c d f) → T) (leaf : ∀ a b c d f, Pre a b c d f → G a b c d f) : T := tree leaf
theorem sh41 {G : Value → Value → Value → Value → Nat → World → Prop} {T : Prop} {Pre : Value → Value → Value → Value → Nat → World → Prop} (tree : (∀ a b c d e f, Pre a b c d e f → G a b c d e f) → T) (leaf : ∀ a b c d e f, Pre a b c d e f → G a b c d e f) : T := tree leaf
theorem op_one {w : World} {P : Nat → Prop} {x : OpT} {cs : List Value} (h : TS w P (encOp x) cs) : ∀ u ∈ cs, u.oneCell' = true := by
  simp only [encOp, TS, TP] at h
  obtain ⟨c0, _, rfl, ⟨rfl, _⟩, c1, _, rfl, ⟨rfl, _⟩, c2, _, rfl, ⟨A2, k2, rfl, _⟩, c3, _, rfl, ⟨A3, k3, rfl, _⟩, c4, _, rfl, ⟨A4, k4, rfl, _⟩, rfl⟩ := h
  intro u hu
  simp at hu
  rcases hu with rfl | rfl | rfl | rfl | rfl <;> rfl
theorem fr_one {w : World} {P : Nat → Prop} {x : FragT} {cs : List Value} (h : TS w P (encF x) cs) : ∀ u ∈ cs, u.oneCell' = true := by
  simp only [encF, TS, TP] at h
  obtain ⟨c0, _, rfl, ⟨rfl, _⟩, c1, _, rfl, ⟨rfl, _⟩, c2, _, rfl, ⟨A2, k2, rfl, _⟩, c3, _, rfl, ⟨A3, k3, rfl, _⟩, rfl⟩ := h
  intro u hu
  simp at hu
  rcases hu with rfl | rfl | rfl | rfl <;> rfl
theorem tlv_one {α : Type} {f : α → TrS} {w : World} {P : Nat → Prop} (H : ∀ x cs, TS w P (f x) cs → ∀ u ∈ cs, u.oneCell' = true) : ∀ {l : List α} {xs : List Value}, TLV w P (rowOf f l) xs → ∀ u ∈ xs, u.oneCell' = true
  | [], xs, h => by
    have : xs = [] := h
    subst this
    intro u hu
    simp at hu
  | a :: t, xs, h => by
    obtain ⟨cs, ys, rfl, h1, h2⟩ := h
    intro u hu
    rcases List.mem_append.1 hu with hu | hu
    · exact H _ _ h1 u hu
    · exact tlv_one H h2 u hu
theorem encOp_len' (x : OpT) : (encOp x).len = 5 := rfl
theorem encF_len' (x : FragT) : (encF x).len = 4 := rfl
/-- What a row brings: its cells, wherever memory goes from there. -/
structure Brings {α : Type} (f : α → TrS) (n : Nat) (W : World) (l : List α) (A : Option Addr) (xs : List Value) : Prop where
  tl : TLV W (fun b => b < W.heap.size) (rowOf f l) xs
  len : xs.length = l.length * n
  at' : ∀ w', Below W.heap.size W w' → ∀ j u, xs[j]? = some u → ∃ b o, A = some ⟨b, o, none⟩ ∧ w'.cell? ⟨b, o + j, none⟩ = some u
  one : ∀ u ∈ xs, u.oneCell' = true
theorem brings {α : Type} {f : α → TrS} {n : Nat} (hn : ∀ a, (f a).len = n) (H : ∀ (w : World) (P : Nat → Prop) x cs, TS w P (f x) cs → ∀ u ∈ cs, u.oneCell' = true) {W : World} {l : List α} {A : Option Addr} (h : RowT W (fun b => b < W.heap.size) (rowOf f l) A) : ∃ xs, Brings f n W l A xs := by
  obtain ⟨xs, h1, h2, h3⟩ := row_cells n hn h
  refine ⟨xs, h1, h2, fun w' hb j u hj => ?_, tlv_one (H _ _) h1⟩
  obtain ⟨b, o, e, hlt, hc⟩ := h3 j u hj
  exact ⟨b, o, e, (hb.cell (p := ⟨b, _, none⟩) hlt).trans hc⟩
theorem docF_len : ∀ (f : Nat) (D D' : DocT) (ts : List Tok), docF f D ts = .ok D' → D'.ops.length + D'.frags.length ≤ D.ops.length + D.frags.length + ts.length
  | 0, _, _, _, h => by cases h
  | f + 1, D, D', ts, h => by
    rw [docF] at h
    cases hd : defR D ts with
    | error x => rw [hd] at h; cases h
    | ok p =>
      obtain ⟨D2, r⟩ := p
      rw [hd] at h
      have hlt := (def_sfx hd).2
      have hc : D2.ops.length + D2.frags.length = D.ops.length + D.frags.length + 1 := by
        rw [defR_eq] at hd
        unfold bindR at hd
        cases ho : oneD ts with
        | error x => rw [ho] at hd; cases hd
        | ok q =>
          rw [ho] at hd
          have hd := (Prod.mk.inj (Except.ok.inj hd)).1
          subst hd
          obtain ⟨x, r2⟩ := q
          cases x <;> simp [addD] <;> omega
      simp only at h
      split at h
      · have := Except.ok.inj h
        subst this
        omega
      · have := docF_len f D2 D' r h
        omega
theorem doc_small {s : ByteArray} {D : DocT} (hs : s.size ≤ 9000) (h : wholeA docRr s.data.toList = .ok D) : D.ops.length ≤ 9001 ∧ D.frags.length ≤ 9001 := by
  obtain ⟨ts, h1, h2⟩ := whole_parts h
  have := docF_len _ _ _ _ h2
  have hl := readS_len (s := s) hs
  rw [h1] at hl
  rw [tokB_len] at this
  simp at this hl
  omega
/-- The document that two rows of one's own are. -/
theorem AB.doc {W w' : World} {V1 V2 : Value} {b : Nat} {A B : DocT} {xa xb ya yb : List Value} {Aa Ab Fa Fb : Option Addr} (h : AB W w' V1 (0 + A.ops.length + B.ops.length) ([] ++ xa ++ xb) V2 (0 + A.frags.length + B.frags.length) ([] ++ ya ++ yb) (some b))
    (h1 : Brings encOp 5 W A.ops Aa xa) (h2 : Brings encOp 5 W B.ops Ab xb) (h3 : Brings encF 4 W A.frags Fa ya) (h4 : Brings encF 4 W B.frags Fb yb) (hl1 : A.ops.length + B.ops.length ≤ 9223372036854775807) (hl2 : A.frags.length + B.frags.length ≤ 9223372036854775807) :
    ∃ A9 c9 A8 c8, V1 = .slice A9 (A.ops ++ B.ops).length c9 ∧ V2 = .slice A8 (A.frags ++ B.frags).length c8 ∧ DocAt ((w'.setCell ⟨b, 0, none⟩ V1).setCell ⟨b, 1, none⟩ V2) ((w'.setCell ⟨b, 0, none⟩ V1).setCell ⟨b, 1, none⟩ V2).heap.size ⟨A.ops ++ B.ops, A.frags ++ B.frags⟩ A9 A8 ∧
      ((w'.setCell ⟨b, 0, none⟩ V1).setCell ⟨b, 1, none⟩ V2).heap[b]? = some (.cells #[V1, V2] 26 (0, 0)) ∧ Below W.heap.size W ((w'.setCell ⟨b, 0, none⟩ V1).setCell ⟨b, 1, none⟩ V2) := by
  obtain ⟨hbW, hb⟩ := h.bx b rfl
  have hlt := (Array.getElem?_eq_some_iff.1 hb).1
  have hX : TLV w' (fun b => b < W.heap.size) (rowOf encOp (A.ops ++ B.ops)) ([] ++ xa ++ xb) := (tlv_app h2.tl h1.tl).keep (fun k hk => ⟨hk, h.bl.block k hk⟩)
  have hY : TLV w' (fun b => b < W.heap.size) (rowOf encF (A.frags ++ B.frags)) ([] ++ ya ++ yb) := (tlv_app h4.tl h3.tl).keep (fun k hk => ⟨hk, h.bl.block k hk⟩)
  have o1 := h.r1
  have o2 := h.r2
  rw [show 0 + A.ops.length + B.ops.length = (rowOf encOp (A.ops ++ B.ops)).len by rw [rowOf_len, List.length_append, Nat.zero_add]] at o1
  rw [show 0 + A.frags.length + B.frags.length = (rowOf encF (A.frags ++ B.frags)).len by rw [rowOf_len, List.length_append, Nat.zero_add]] at o2
  obtain ⟨A9, c9, e9, t9⟩ := row_tl o1 hX
  obtain ⟨A8, c8, e8, t8⟩ := row_tl o2 hY
  rw [rowOf_len] at e9 e8
  have hsz : ((w'.setCell ⟨b, 0, none⟩ V1).setCell ⟨b, 1, none⟩ V2).heap.size = w'.heap.size := by simp [World.setCell]
  have hfar : ∀ k, k ≠ b → ((w'.setCell ⟨b, 0, none⟩ V1).setCell ⟨b, 1, none⟩ V2).heap[k]? = w'.heap[k]? := fun k hk => (Below.heap_setCell _ _ _ _ hk).trans (Below.heap_setCell _ _ _ _ hk)
  have n1 := own_box (by decide) h.r1 hb
  have n2 := own_box (by decide) h.r2 hb
  have hs := h.bl.size
  refine ⟨A9, c9, A8, c8, e9, e8, ⟨by simp; omega, by simp; omega, RowT.keep (fun k hk => ?_) _ _ t9, RowT.keep (fun k hk => ?_) _ _ t8⟩, ?_, ⟨h.bl.os, h.bl.tape, h.bl.output, by rw [hsz]; exact hs, fun k hk => (hfar k (by omega)).trans (h.bl.block k hk)⟩⟩
  · rw [hsz]
    rcases hk with hk | hk
    · exact ⟨by omega, hfar k (by omega)⟩
    · exact ⟨(h.r1.lt k hk).2, hfar k (fun e => n1 (by rw [hk, e]))⟩
  · rw [hsz]
    rcases hk with hk | hk
    · exact ⟨by omega, hfar k (by omega)⟩
    · exact ⟨(h.r2.lt k hk).2, hfar k (fun e => n2 (by rw [hk, e]))⟩
  · exact heap_setCell_same _ _ 1 _ _ V2 (heap_setCell_same _ _ 0 _ _ V1 hb)
theorem ab_set {W w' : World} {V1 V2 : Value} {n1 n2 b : Nat} {xs1 xs2 : List Value} (h : AB W w' V1 n1 xs1 V2 n2 xs2 (some b)) (v1 v2 : Value) : Below W.heap.size W ((w'.setCell ⟨b, 0, none⟩ v1).setCell ⟨b, 1, none⟩ v2) := by
  have hsz : ((w'.setCell ⟨b, 0, none⟩ v1).setCell ⟨b, 1, none⟩ v2).heap.size = w'.heap.size := by simp [World.setCell]
  exact ⟨h.bl.os, h.bl.tape, h.bl.output, by rw [hsz]; exact h.bl.size, fun k hk => ((Below.heap_setCell _ _ _ _ (show k ≠ b by have := (h.bx b rfl).1; omega)).trans (Below.heap_setCell _ _ _ _ (show k ≠ b by have := (h.bx b rfl).1; omega))).trans (h.bl.block k hk)⟩
end Go.Proofs.YtpkmbhnikilihaaGreatDoor
/- What every law of token needs around its walk: the table of shapes and the library's own error as they are laid, the arguments read as they did, a world to show that the row is not empty. -/
namespace Go.Proofs.YtpkmbhnikilihaaGreatDoor
open Go.ChangeShapes Go.WideShapes Go.ChangeAt Go.RowKit

theorem own : ownKnob Tryz.prog.godebug = none := by kernel_rfl
theorem laidOut : laidOutB Tryz.prog = true := by kernel_rfl
theorem gTab : Tryz.prog.globalNamed "seine/letters.shapes" = some 1 := by kernel_rfl
theorem gTabType : (Tryz.prog.globals[1]?).map (·.type) = some 267 := by kernel_rfl
theorem cellsTab : Tryz.prog.cellsOf 267 = 12 := by kernel_rfl
theorem cellsShape : Tryz.prog.cellsOf 266 = 3 := by kernel_rfl
theorem cellsInt : Tryz.prog.cellsOf 3 = 1 := by kernel_rfl

theorem one_shape {w : World} {cs : List Value} {m : Nat} {a b c : Int} {p : List MemPlace} (h : DataW.trod (fun _ => ()) Tryz.prog w 0 (fun _ => true) false m 266 cs = some (DataW.agg [.lit (.int .i64 a), .lit (.int .i64 b), .lit (.int .i64 c)], p)) :
    cs = [.int .i64 a, .int .i64 b, .int .i64 c] := by
  obtain ⟨y0, y1, y2, n, hx, hl, h0, h1, h2⟩ := Go.Deep.trod_struct3 Tryz.underlying266 h
  rw [cellsShape] at hl
  simp only [cellsInt] at h0 h1 h2
  obtain ⟨n0, c0, rfl, _⟩ := DataW.trod_int Tryz.underlying3 h0
  obtain ⟨n1, c1, rfl, _⟩ := DataW.trod_int Tryz.underlying3 h1
  obtain ⟨n2, c2, rfl, _⟩ := DataW.trod_int Tryz.underlying3 h2
  simp only [Prod.mk.injEq, DataW.agg.injEq, List.cons.injEq, DataW.lit.injEq, Lit.int.injEq, true_and, and_true] at hx
  obtain ⟨⟨rfl, rfl, rfl⟩, _⟩ := hx
  match cs, hl with
  | [x, y, z], _ =>
    simp at c0 c1 c2
    subst c0 c1 c2
    rfl
theorem table {W : World} (h : Lib.VarReads Tryz.prog W "seine/letters.shapes" Rows.laid_seine_letters_shapes) : TabAt W := by
  obtain ⟨g', t', cs, fuel, p, hg', ht', hvar, hd⟩ := h
  obtain rfl := Option.some.inj (gTab.symm.trans hg')
  obtain rfl := Option.some.inj (gTabType.symm.trans ht')
  obtain ⟨xs, m, _, hx, hl, hxl, hi⟩ := DataW.trod_array Tryz.underlying267 hd
  rw [cellsTab] at hl
  simp only [cellsShape] at hi
  match xs, hxl with
  | [x0, x1, x2, x3], _ =>
    simp only [Rows.laid_seine_letters_shapes, List.map_cons, List.map_nil, Prod.mk.injEq, DataW.agg.injEq, List.cons.injEq, and_true] at hx
    obtain ⟨⟨e0, e1, e2, e3⟩, _⟩ := hx
    have a0 := one_shape (p := x0.2) ((hi 0 (by omega)).trans (by rw [e0]; rfl))
    have a1 := one_shape (p := x1.2) ((hi 1 (by omega)).trans (by rw [e1]; rfl))
    have a2 := one_shape (p := x2.2) ((hi 2 (by omega)).trans (by rw [e2]; rfl))
    have a3 := one_shape (p := x3.2) ((hi 3 (by omega)).trans (by rw [e3]; rfl))
    have hcs : cs.toList = [.int .i64 0, .int .i64 128, .int .i64 0, .int .i64 192, .int .i64 224, .int .i64 128, .int .i64 224, .int .i64 240, .int .i64 2048, .int .i64 240, .int .i64 248, .int .i64 65536] := by
      have hl' : cs.toList.length = 12 := hl
      generalize cs.toList = l at *
      match l, hl' with
      | [b0, b1, b2, b3, b4, b5, b6, b7, b8, b9, b10, b11], _ =>
        simp at a0 a1 a2 a3
        obtain ⟨rfl, rfl, rfl⟩ := a0
        obtain ⟨rfl, rfl, rfl⟩ := a1
        obtain ⟨rfl, rfl, rfl⟩ := a2
        obtain ⟨rfl, rfl, rfl⟩ := a3
        rfl
    intro j z hz
    rw [World.var?_cell gTab hvar j]
    have : cs[j]? = cs.toList[j]? := by simp
    rw [this, hcs]
    have hj : j < 12 := (List.getElem?_eq_some_iff.1 hz).1
    match j, hj, hz with
    | 0, _, hz | 1, _, hz | 2, _, hz | 3, _, hz | 4, _, hz | 5, _, hz | 6, _, hz | 7, _, hz | 8, _, hz | 9, _, hz | 10, _, hz | 11, _, hz => cases hz; rfl

theorem gErr : Tryz.prog.globalNamed "strconv.ErrSyntax" = some 2 := by kernel_rfl
theorem gErrType : (Tryz.prog.globals[2]?).map (·.type) = some 105 := by kernel_rfl
theorem error_laid {W : World} (h : Lib.VarReads Tryz.prog W "strconv.ErrSyntax" Rows.laid_strconv_ErrSyntax) : ∃ te pe, W.cell? ⟨2, 0, none⟩ = some (.iface te pe) := by
  obtain ⟨g', t', cs, fuel, p, hg', ht', hvar, hd⟩ := h
  obtain rfl := Option.some.inj (gErr.symm.trans hg')
  obtain rfl := Option.some.inj (gErrType.symm.trans ht')
  obtain ⟨_, u, v, e, _, _⟩ := iface_of_trod Tryz.underlying105 hd
  refine ⟨u, v, ?_⟩
  rw [World.var?_cell gErr hvar 0]
  have : cs[0]? = cs.toList[0]? := by simp
  rw [this, e]
  rfl
/-- The listed variables, all of them. -/
abbrev allLaid : List (String × DataW Unit) := [("math/bits.deBruijn32tab", Rows.laid_math_bits_deBruijn32tab), ("math/bits.deBruijn64tab", Rows.laid_math_bits_deBruijn64tab), ("internal/strconv.uint64pow10", Rows.laid_internal_strconv_uint64pow10), ("strconv.ErrRange", Rows.laid_strconv_ErrRange), ("strconv.ErrSyntax", Rows.laid_strconv_ErrSyntax), ("seine/letters.shapes", Rows.laid_seine_letters_shapes)]
theorem laid3_of {W : World} (h : laidMetH Tryz.prog allLaid W) : Laid3 W := by
  rw [MakeChecks.laidMetH_plain _ _ _ (by kernel_rfl)] at h
  exact ⟨table (Lib.laidMet.reads h (by simp [allLaid])), error_laid (Lib.laidMet.reads h (by simp [allLaid]))⟩

/-- The arguments read behind the call as they did ahead of it. -/
theorem args_kept {H : Type} {enc : TypeId × Value → H} {W W' : World} (hb : Below W.heap.size W W') : ∀ (ts : List TypeId) (vs : List Value) (ds : List (DataW H)) (ps : List MemPlace),
    (∀ t ∈ ts, Tryz.prog.readableRec t = true ∧ t < Tryz.prog.types.size) → (∀ x ∈ ps, x.block < W.heap.size) →
    DataW.TrodAll enc Tryz.prog W 0 (fun _ => true) true ts vs ds ps → DataW.TrodAll enc Tryz.prog W' 0 (fun b => decide (b < W.heap.size)) true ts vs ds ps
  | [], [], [], _, _, _, h => h
  | t :: ts, v :: vs, d :: ds, ps, hr, hlt, ⟨p, q, h1, h2, e⟩ => by
    subst e
    refine ⟨p, q, ?_, ?_, rfl⟩
    · exact Below.trod laidOut (hr t (by simp)).1 (hr t (by simp)).2 h1 hb (fun x hx => hlt x (by simp [hx]))
    · exact args_kept hb ts vs ds q (fun t' ht' => hr t' (by simp [ht'])) (fun x hx => hlt x (by simp [hx])) h2
  | [], [], _ :: _, _, _, _, h => h.elim
  | [], _ :: _, _, _, _, _, h => h.elim
  | _ :: _, [], _, _, _, _, h => h.elim
  | _ :: _, _ :: _, [], _, _, _, h => h.elim

/-- What a law's row asks behind the call, of a law that answers true and leaves below its own blocks all as it was. -/
theorem law_post {H : Type} {enc : TypeId × Value → H} {f : Func} {s : ChangeSpec} {W W' : World} {args : Array Value} {ds gs : List (DataW H)} {before : List MemPlace}
    (hW : DataW.Whole enc Tryz.prog f.params.toList s.vars false W args.toList ds gs before) (hv : s.vars = []) (hf : f.resultTypes = #[4])
    (hr : ∀ t ∈ f.params.toList, Tryz.prog.readableRec t = true ∧ t < Tryz.prog.types.size)
    (hs1 : (s.fn H (ds ++ gs)).results = [.lit (.bool true)]) (hs2 : (s.fn H (ds ++ gs)).args = ds) (hs3 : (s.fn H (ds ++ gs)).vars = []) (hb : Below W.heap.size W W') :
    s.post enc Tryz.prog f false true false false W args (.bool true) W' := by
  have hlt : ∀ x ∈ before, x.block < W.heap.size := fun x hx => hW.lt x hx
  have hW0 := hW
  obtain ⟨p, q, hA, hV, e, _, _⟩ := hW0
  rw [hv] at hV
  obtain ⟨rfl, rfl⟩ := trodVars_none hV
  rw [List.append_nil] at e
  subst e
  refine ⟨ds, [], before, [], before, [], hW, ?_, ?_, ?_, World.keptBut_mono (fun x hx => ⟨hx, .inr (.inl hx)⟩) (hb.frame (· ∈ before)), fun h => by cases h⟩
  · rw [hs1, hf]; exact trodAll_mk1 (shut_bool Tryz.underlying4 _)
  · rw [hs2]; exact args_kept hb _ _ _ _ hr hlt hA
  · rw [hs3, hv]; rfl

/-- A world that holds the listed variables, for the witness. -/
noncomputable def laidWorld (os : Os) : World := World.laidAll Tryz.prog os allLaid
theorem laidWorld_met (os : Os) (args : Array Value) : laidMet Tryz.prog allLaid ((laidWorld os).forCall (fun _ _ => 0) ⟨#[], args, []⟩).memory :=
  laidMet_laidAll args (by kernel_rfl) (by kernel_rfl)
end Go.Proofs.YtpkmbhnikilihaaGreatDoor
/- Plain mathematics: the tokens of a plain value, and that they tell the value. -/
namespace Go.Proofs.YtpkmbhnikilihaaGreatDoor
end Go.Proofs.YtpkmbhnikilihaaGreatDoor
/- A value that comes in, opened with all that is known of it: it lies in memory that was there, its numbers are of 64 bits, its bulk bounds its size, the reach bounds its lists. -/
namespace Go.Proofs.YtpkmbhnikilihaaGreatDoor
open Go.ChangeShapes Go.WideShapes Go.ChangeAt Go.RowKit

end Go.Proofs.YtpkmbhnikilihaaGreatDoor
/- What the law ValueReads needs around its walk, beside what the laws of token need: two listed variables more, a value opened. -/
namespace Go.Proofs.YtpkmbhnikilihaaGreatDoor
open Go.ChangeShapes Go.WideShapes Go.ChangeAt Go.RowKit

theorem gRange : Tryz.prog.globalNamed "strconv.ErrRange" = some 3 := by kernel_rfl
theorem gRangeType : (Tryz.prog.globals[3]?).map (·.type) = some 105 := by kernel_rfl
theorem range_laid {W : World} (h : Lib.VarReads Tryz.prog W "strconv.ErrRange" Rows.laid_strconv_ErrRange) : ∃ te pe, W.cell? ⟨3, 0, none⟩ = some (.iface te pe) := by
  obtain ⟨g', t', cs, fuel, p, hg', ht', hvar, hd⟩ := h
  obtain rfl := Option.some.inj (gRange.symm.trans hg')
  obtain rfl := Option.some.inj (gRangeType.symm.trans ht')
  obtain ⟨_, u, v, e, _, _⟩ := iface_of_trod Tryz.underlying105 hd
  refine ⟨u, v, ?_⟩
  rw [World.var?_cell gRange hvar 0]
  have : cs[0]? = cs.toList[0]? := by simp
  rw [this, e]
  rfl
theorem gPowType : (Tryz.prog.globals[0]?).map (·.type) = some 262 := by kernel_rfl
theorem pow_laid {W : World} (h : Lib.VarReads Tryz.prog W "internal/strconv.uint64pow10" Rows.laid_internal_strconv_uint64pow10) : Lib.TabIs Tryz.prog W "internal/strconv.uint64pow10" .u64 Lib.pow10Tab := by
  obtain ⟨g', t', cs, fuel, p, hg', ht', hvar, hd⟩ := h
  obtain rfl := Option.some.inj (gPow.symm.trans hg')
  obtain rfl := Option.some.inj (gPowType.symm.trans ht')
  have hd' : DataW.trod (fun _ => ()) Tryz.prog W 0 (fun _ => true) false fuel 262 cs.toList = some (Lib.tabData .u64 Lib.pow10Tab, p) := hd
  have := Lib.cells_of_tab Tryz.underlying262 Tryz.underlying238 (by kernel_rfl) (by kernel_rfl) hd'
  unfold Lib.TabIs
  rw [hvar, ← this]
theorem laid5_of {W : World} (h : laidMetH Tryz.prog allLaid W) : Laid5 W := by
  rw [MakeChecks.laidMetH_plain _ _ _ (by kernel_rfl)] at h
  exact ⟨table (Lib.laidMet.reads h (by simp [allLaid])), range_laid (Lib.laidMet.reads h (by simp [allLaid])), pow_laid (Lib.laidMet.reads h (by simp [allLaid]))⟩
end Go.Proofs.YtpkmbhnikilihaaGreatDoor
/- What the laws of parse need around their walks: an api.Type opened, with the length of its name. -/
namespace Go.Proofs.YtpkmbhnikilihaaGreatDoor
open Go.ChangeShapes Go.WideShapes Go.ChangeAt Go.RowKit

end Go.Proofs.YtpkmbhnikilihaaGreatDoor
