/- Selections in the order in which they are met; rows of selections whose capacity holds their length. -/
import Derived.Test.YtgihnhdknphhpaaGrRow
namespace Go.Proofs.Ytgihnhdknphhpaa
open Go.RowKit

mutual
/-- A selection and all within it. -/
def gpreX : SelT → List SelT
  | .mk k a n g d o s => .mk k a n g d o s :: gpreL s
def gpreL : SelL → List SelT
  | .nil => []
  | .cons x t => gpreX x ++ gpreL t
end
theorem gpreX_eq (x : SelT) : gpreX x = x :: gpreL x.sels := by
  obtain ⟨k, a, n, g, d, o, s⟩ := x
  rw [gpreX]; rfl
theorem gpreL_cons (x : SelT) (t : SelL) : gpreL (.cons x t) = x :: (gpreL x.sels ++ gpreL t) := by
  rw [gpreL, gpreX_eq]; rfl
theorem gpreL_nil : gpreL .nil = [] := by rw [gpreL]
/-- What a stack of lists still hands out: the last list first. -/
def leftQ (stk : List SelL) : List SelT := stk.reverse.flatMap gpreL
theorem leftQ_nil : leftQ [] = [] := rfl
theorem leftQ_snoc (stk : List SelL) (l : SelL) : leftQ (stk ++ [l]) = gpreL l ++ leftQ stk := by
  unfold leftQ; rw [List.reverse_append]; rfl
theorem gpreL_sz : ∀ l : SelL, (gpreL l).length * 4 ≤ szSels l
  | .nil => by rw [gpreL, szSels]; simp
  | .cons (.mk k a n g d o s) t => by
    have h1 := gpreL_sz s
    have h2 := gpreL_sz t
    rw [gpreL, gpreX, szSels, szSel, List.length_append, List.length_cons]
    omega
theorem gpreL_app (l m : List SelT) : gpreL (toSL (l ++ m)) = gpreL (toSL l) ++ gpreL (toSL m) := by
  induction l with
  | nil => rw [List.nil_append, toSL, gpreL]; rfl
  | cons x t ih => rw [List.cons_append, toSL, toSL, gpreL, gpreL, ih, List.append_assoc]
theorem toSL_ls : ∀ l : SelL, toSL l.ls = l
  | .nil => by rw [SelL.ls, toSL]
  | .cons x t => by rw [SelL.ls, toSL, toSL_ls t]
mutual
def CapX (w : World) (P : Nat → Prop) : SelT → Option Addr → Prop
  | .mk _ _ _ _ _ _ s, A => CapL w P s A
/-- The slices of selections in a row, and in theirs, hold their length. -/
def CapL (w : World) (P : Nat → Prop) : SelL → Option Addr → Prop
  | .nil, _ => True
  | .cons x t, A => ∃ b o As ks, A = some ⟨b, o, none⟩ ∧ P b ∧ w.cell? ⟨b, o + 6, none⟩ = some (.slice As x.sels.len ks) ∧ x.sels.len ≤ ks ∧ CapX w P x As ∧ CapL w P t (some ⟨b, o + 7, none⟩)
end
theorem capX_eq {w : World} {P : Nat → Prop} (x : SelT) (A : Option Addr) : CapX w P x A = CapL w P x.sels A := by
  obtain ⟨k, a, n, g, d, o, s⟩ := x
  rw [CapX]; rfl
theorem capL_nil {w : World} {P : Nat → Prop} (A : Option Addr) : CapL w P .nil A := by rw [CapL]; trivial
mutual
theorem CapX.keep {w w' : World} {P P' : Nat → Prop} (hP : ∀ b, P b → P' b ∧ w'.heap[b]? = w.heap[b]?) : ∀ (x : SelT) (A : Option Addr), CapX w P x A → CapX w' P' x A
  | .mk _ _ _ _ _ _ s, A, h => by
    rw [CapX] at h ⊢
    exact CapL.keep hP s A h
theorem CapL.keep {w w' : World} {P P' : Nat → Prop} (hP : ∀ b, P b → P' b ∧ w'.heap[b]? = w.heap[b]?) : ∀ (l : SelL) (A : Option Addr), CapL w P l A → CapL w' P' l A
  | .nil, _, _ => capL_nil _
  | .cons x t, A, h => by
    rw [CapL] at h ⊢
    obtain ⟨b, o, As, ks, e, hb, hc, hl, h1, h2⟩ := h
    exact ⟨b, o, As, ks, e, (hP b hb).1, (World.cell?_of_block (a := ⟨b, o + 6, none⟩) (hP b hb).2).trans hc, hl, CapX.keep hP x As h1, CapL.keep hP t _ h2⟩
end
/-- Selections in a row below B. -/
def SelsAt (w : World) (B : Nat) (l : SelL) (A : Option Addr) : Prop := RowT w (fun b => b < B) (encSL l) A ∧ CapL w (fun b => b < B) l A
theorem SelsAt.nil {w : World} {B : Nat} (A : Option Addr) : SelsAt w B .nil A := ⟨by rw [encSL]; unfold RowT; trivial, capL_nil A⟩
theorem SelsAt.keep {w w' : World} {B B' : Nat} {l : SelL} {A : Option Addr} (h : SelsAt w B l A) (hB : B ≤ B') (hP : ∀ b, b < B → w'.heap[b]? = w.heap[b]?) : SelsAt w' B' l A :=
  ⟨RowT.keep (fun b hb => ⟨Nat.lt_of_lt_of_le hb hB, hP b hb⟩) _ _ h.1, CapL.keep (fun b hb => ⟨Nat.lt_of_lt_of_le hb hB, hP b hb⟩) _ _ h.2⟩
theorem SelsAt.below {w w' : World} {B : Nat} {l : SelL} {A : Option Addr} (h : SelsAt w B l A) (hb : Below B w w') : SelsAt w' B l A := h.keep (Nat.le_refl _) (fun b hl => hb.block b hl)
/-- A selection in its cells. -/
def SelAt (w : World) (B : Nat) (x : SelT) (cs : List Value) : Prop := ∃ Ag kg Ad kd As ks, cs = [.int .i64 x.kind, .string x.als, .string x.name, .slice Ag x.args.len kg, .slice Ad x.dirs.length kd, .string x.on, .slice As x.sels.len ks] ∧
    TS w (fun b => b < B) (encS x) cs ∧ x.sels.len ≤ ks ∧ SelsAt w B x.sels As ∧ x.sels.len ≤ 9223372036854775807
theorem SelAt.keep {w w' : World} {B B' : Nat} {x : SelT} {cs : List Value} (h : SelAt w B x cs) (hB : B ≤ B') (hP : ∀ b, b < B → w'.heap[b]? = w.heap[b]?) : SelAt w' B' x cs := by
  obtain ⟨Ag, kg, Ad, kd, As, ks, e, h1, h2, h3, h4⟩ := h
  exact ⟨Ag, kg, Ad, kd, As, ks, e, TS.keep (fun b hb => ⟨Nat.lt_of_lt_of_le hb hB, hP b hb⟩) _ _ h1, h2, h3.keep hB hP, h4⟩
/-- The first of a row. -/
theorem SelsAt.head {w : World} {B : Nat} {x : SelT} {t : SelL} {A : Option Addr} (h : SelsAt w B (.cons x t) A) :
    ∃ b o Ag kg Ad kd As ks, A = some ⟨b, o, none⟩ ∧ b < B ∧ (w.cell? ⟨b, o, none⟩ = some (.int .i64 x.kind) ∧ w.cell? ⟨b, o + 1, none⟩ = some (.string x.als) ∧ w.cell? ⟨b, o + 2, none⟩ = some (.string x.name) ∧ w.cell? ⟨b, o + 3, none⟩ = some (.slice Ag x.args.len kg) ∧ w.cell? ⟨b, o + 4, none⟩ = some (.slice Ad x.dirs.length kd) ∧ w.cell? ⟨b, o + 5, none⟩ = some (.string x.on) ∧ w.cell? ⟨b, o + 6, none⟩ = some (.slice As x.sels.len ks)) ∧
    SelAt w B x [.int .i64 x.kind, .string x.als, .string x.name, .slice Ag x.args.len kg, .slice Ad x.dirs.length kd, .string x.on, .slice As x.sels.len ks] ∧ SelsAt w B t (some ⟨b, o + 7, none⟩) := by
  obtain ⟨h1, h2⟩ := h
  rw [CapL] at h2
  obtain ⟨b2, o2, As2, ks2, e2, _, hc2, hk2, hx2, ht2⟩ := h2
  rw [encSL] at h1
  unfold RowT at h1
  obtain ⟨b, o, cs, rfl, hb, hc, hT, hR⟩ := h1
  have e2 := Option.some.inj e2
  injection e2 with e3 e4 _
  subst e3 e4
  obtain ⟨Ag, kg, Ad, kd, As, ks, rfl, z1, z2, z3, z4, z5, z6, z7⟩ := sel_cells hT
  have hc6 := hc 6 _ rfl
  rw [hc2] at hc6
  have e5 := Option.some.inj hc6
  simp only [Value.slice.injEq, true_and] at e5
  obtain ⟨rfl, rfl⟩ := e5
  rw [encS_len] at hR
  rw [capX_eq] at hx2
  exact ⟨b, o, Ag, kg, Ad, kd, As2, ks2, rfl, hb, ⟨hc 0 _ rfl, hc 1 _ rfl, hc 2 _ rfl, hc 3 _ rfl, hc 4 _ rfl, hc 5 _ rfl, hc 6 _ rfl⟩, ⟨_, _, _, _, _, _, rfl, hT, hk2, ⟨z7, hx2⟩, z6⟩, hR, ht2⟩
end Go.Proofs.Ytgihnhdknphhpaa
