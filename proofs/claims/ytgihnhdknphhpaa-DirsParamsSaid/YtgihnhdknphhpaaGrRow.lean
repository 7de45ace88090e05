/- Rows of selections, operations, fragments: their elements in memory. -/
import Derived.Test.YtgihnhdknphhpaaPaSame
import Derived.Test.YtgihnhdknphhpaaGrOpen
namespace Go.Proofs.Ytgihnhdknphhpaa
open Go.RowKit

def SelL.ls : SelL → List SelT
  | .nil => []
  | .cons x t => x :: t.ls
theorem SelL.ls_len : ∀ l : SelL, l.ls.length = l.len
  | .nil => rfl
  | .cons x t => by rw [SelL.ls, SelL.len, List.length_cons, SelL.ls_len t]
theorem SelL.ls_enc : ∀ l : SelL, encSL l = rowOf encS l.ls
  | .nil => by rw [SelL.ls, encSL, rowOf]
  | .cons x t => by rw [SelL.ls, encSL, rowOf, SelL.ls_enc t]
theorem SelL.ls_sz : ∀ l : SelL, szSels l = (l.ls.map szSel).sum
  | .nil => by rw [SelL.ls, szSels]; rfl
  | .cons x t => by rw [SelL.ls, szSels, SelL.ls_sz t, List.map_cons, List.sum_cons]
def SelT.kind : SelT → Int | .mk k _ _ _ _ _ _ => k
def SelT.als : SelT → ByteArray | .mk _ a _ _ _ _ _ => a
def SelT.name : SelT → ByteArray | .mk _ _ n _ _ _ _ => n
def SelT.args : SelT → VM | .mk _ _ _ g _ _ _ => g
def SelT.dirs : SelT → List DirT | .mk _ _ _ _ d _ _ => d
def SelT.on : SelT → ByteArray | .mk _ _ _ _ _ o _ => o
def SelT.sels : SelT → SelL | .mk _ _ _ _ _ _ s => s
theorem szSel_eq (x : SelT) : szSel x = x.als.size + x.name.size + x.on.size + 4 + sizeM x.args + (x.dirs.map szDr).sum + szSels x.sels := by
  obtain ⟨k, a, n, g, d, o, s⟩ := x
  rw [szSel]; rfl
theorem sum_mem {α : Type} {f : α → Nat} {l : List α} {a : α} (h : a ∈ l) : f a ≤ (l.map f).sum := by
  induction l with
  | nil => cases h
  | cons b t ih =>
    rw [List.map_cons, List.sum_cons]
    rcases List.mem_cons.1 h with rfl | h
    · omega
    · have := ih h; omega
theorem sum_len {α : Type} {f : α → Nat} {l : List α} {k : Nat} (h : ∀ a, a ∈ l → k ≤ f a) : l.length * k ≤ (l.map f).sum := by
  induction l with
  | nil => simp
  | cons b t ih =>
    rw [List.map_cons, List.sum_cons, List.length_cons, Nat.succ_mul]
    have h1 := h b (List.mem_cons_self ..)
    have h2 := ih (fun a ha => h a (List.mem_cons_of_mem _ ha))
    omega
theorem sel_in {l : SelL} {x : SelT} (h : x ∈ l.ls) : szSels x.sels + 4 ≤ szSels l := by
  have h1 := sum_mem (f := szSel) h
  rw [← SelL.ls_sz, szSel_eq] at h1
  omega
theorem sels_len (l : SelL) : l.len * 4 ≤ szSels l := by
  rw [SelL.ls_sz, ← SelL.ls_len]
  exact sum_len fun a _ => by rw [szSel_eq]; omega
/-- The cells of a selection. -/
theorem sel_cells {w : World} {P : Nat → Prop} {x : SelT} {cs : List Value} (h : TS w P (encS x) cs) : ∃ Ag kg Ad kd As ks,
    cs = [.int .i64 x.kind, .string x.als, .string x.name, .slice Ag x.args.len kg, .slice Ad x.dirs.length kd, .string x.on, .slice As x.sels.len ks] ∧
    x.als.size ≤ 9223372036854775807 ∧ x.name.size ≤ 9223372036854775807 ∧ (x.args.len ≤ 9223372036854775807 ∧ RowT w P (encM x.args) Ag) ∧ (x.dirs.length ≤ 9223372036854775807 ∧ RowT w P (rowOf encD x.dirs) Ad) ∧ x.on.size ≤ 9223372036854775807 ∧ x.sels.len ≤ 9223372036854775807 ∧ RowT w P (encSL x.sels) As := by
  obtain ⟨k, a, n, g, d, o, s⟩ := x
  rw [encS] at h
  simp only [TS, TP] at h
  obtain ⟨c0, _, rfl, ⟨rfl, _⟩, c1, _, rfl, ⟨rfl, h1⟩, c2, _, rfl, ⟨rfl, h2⟩, c3, _, rfl, ⟨Ag, kg, rfl, h3, r3⟩, c4, _, rfl, ⟨Ad, kd, rfl, h4, r4⟩, c5, _, rfl, ⟨rfl, h5⟩, c6, _, rfl, ⟨As, ks, rfl, h6, r6⟩, rfl⟩ := h
  rw [encM_len] at h3 ⊢
  rw [rowOf_len] at h4 ⊢
  rw [encSL_len] at h6 ⊢
  exact ⟨Ag, kg, Ad, kd, As, ks, rfl, h1, h2, ⟨h3, r3⟩, ⟨h4, r4⟩, h5, h6, r6⟩
theorem sel_at {w : World} {B : Nat} {l : SelL} {A : Option Addr} {q : Nat} {x : SelT} (h : RowT w (fun b => b < B) (encSL l) A) (hx : l.ls[q]? = some x) :
    ∃ b o Ag kg Ad kd As ks, A = some ⟨b, o, none⟩ ∧ b < B ∧ (w.cell? ⟨b, o + q * 7, none⟩ = some (.int .i64 x.kind) ∧ w.cell? ⟨b, o + q * 7 + 1, none⟩ = some (.string x.als) ∧ w.cell? ⟨b, o + q * 7 + 2, none⟩ = some (.string x.name) ∧ w.cell? ⟨b, o + q * 7 + 3, none⟩ = some (.slice Ag x.args.len kg) ∧ w.cell? ⟨b, o + q * 7 + 4, none⟩ = some (.slice Ad x.dirs.length kd) ∧ w.cell? ⟨b, o + q * 7 + 5, none⟩ = some (.string x.on) ∧ w.cell? ⟨b, o + q * 7 + 6, none⟩ = some (.slice As x.sels.len ks)) ∧
    TS w (fun b => b < B) (encS x) [.int .i64 x.kind, .string x.als, .string x.name, .slice Ag x.args.len kg, .slice Ad x.dirs.length kd, .string x.on, .slice As x.sels.len ks] ∧
    (x.als.size ≤ 9223372036854775807 ∧ x.name.size ≤ 9223372036854775807 ∧ x.on.size ≤ 9223372036854775807) ∧ (x.args.len ≤ 9223372036854775807 ∧ RowT w (fun b => b < B) (encM x.args) Ag) ∧ (x.dirs.length ≤ 9223372036854775807 ∧ RowT w (fun b => b < B) (rowOf encD x.dirs) Ad) ∧ x.sels.len ≤ 9223372036854775807 ∧ RowT w (fun b => b < B) (encSL x.sels) As := by
  rw [SelL.ls_enc] at h
  obtain ⟨b, o, cs, e, hb, hc, h1⟩ := rowOf_at 7 encS_len h hx
  obtain ⟨Ag, kg, Ad, kd, As, ks, rfl, z1, z2, z3, z4, z5, z6⟩ := sel_cells h1
  exact ⟨b, o, Ag, kg, Ad, kd, As, ks, e, hb, ⟨hc 0 _ rfl, hc 1 _ rfl, hc 2 _ rfl, hc 3 _ rfl, hc 4 _ rfl, hc 5 _ rfl, hc 6 _ rfl⟩, h1, ⟨z1, z2, z5⟩, z3, z4, z6⟩
theorem op_at {w : World} {B : Nat} {l : List OpT} {A : Option Addr} {q : Nat} {x : OpT} (h : RowT w (fun b => b < B) (rowOf encOp l) A) (hx : l[q]? = some x) :
    ∃ b o Av kv Ad kd As ks, A = some ⟨b, o, none⟩ ∧ b < B ∧ (w.cell? ⟨b, o + q * 5, none⟩ = some (.int .i64 x.kind) ∧ w.cell? ⟨b, o + q * 5 + 1, none⟩ = some (.string x.name) ∧ w.cell? ⟨b, o + q * 5 + 2, none⟩ = some (.slice Av x.vars.length kv) ∧ w.cell? ⟨b, o + q * 5 + 3, none⟩ = some (.slice Ad x.dirs.length kd) ∧ w.cell? ⟨b, o + q * 5 + 4, none⟩ = some (.slice As x.sels.len ks)) ∧
    x.name.size ≤ 9223372036854775807 ∧ (x.vars.length ≤ 9223372036854775807 ∧ RowT w (fun b => b < B) (rowOf encVar x.vars) Av) ∧ (x.dirs.length ≤ 9223372036854775807 ∧ RowT w (fun b => b < B) (rowOf encD x.dirs) Ad) ∧ x.sels.len ≤ 9223372036854775807 ∧ RowT w (fun b => b < B) (encSL x.sels) As := by
  obtain ⟨b, o, cs, e, hb, hc, h⟩ := rowOf_at 5 (fun _ => rfl) h hx
  unfold encOp at h
  simp only [TS, TP] at h
  obtain ⟨c0, _, rfl, ⟨rfl, _⟩, c1, _, rfl, ⟨rfl, h1⟩, c2, _, rfl, ⟨Av, kv, rfl, h2, r2⟩, c3, _, rfl, ⟨Ad, kd, rfl, h3, r3⟩, c4, _, rfl, ⟨As, ks, rfl, h6, r6⟩, rfl⟩ := h
  rw [rowOf_len] at h2 h3
  rw [encSL_len] at h6
  rw [rowOf_len, rowOf_len, encSL_len] at hc
  exact ⟨b, o, Av, kv, Ad, kd, As, ks, e, hb, ⟨hc 0 _ rfl, hc 1 _ rfl, hc 2 _ rfl, hc 3 _ rfl, hc 4 _ rfl⟩, h1, ⟨h2, r2⟩, ⟨h3, r3⟩, h6, r6⟩
theorem frag_at {w : World} {B : Nat} {l : List FragT} {A : Option Addr} {q : Nat} {x : FragT} (h : RowT w (fun b => b < B) (rowOf encF l) A) (hx : l[q]? = some x) :
    ∃ b o Ad kd As ks, A = some ⟨b, o, none⟩ ∧ b < B ∧ (w.cell? ⟨b, o + q * 4, none⟩ = some (.string x.name) ∧ w.cell? ⟨b, o + q * 4 + 1, none⟩ = some (.string x.on) ∧ w.cell? ⟨b, o + q * 4 + 2, none⟩ = some (.slice Ad x.dirs.length kd) ∧ w.cell? ⟨b, o + q * 4 + 3, none⟩ = some (.slice As x.sels.len ks)) ∧
    (x.name.size ≤ 9223372036854775807 ∧ x.on.size ≤ 9223372036854775807) ∧ (x.dirs.length ≤ 9223372036854775807 ∧ RowT w (fun b => b < B) (rowOf encD x.dirs) Ad) ∧ x.sels.len ≤ 9223372036854775807 ∧ RowT w (fun b => b < B) (encSL x.sels) As := by
  obtain ⟨b, o, cs, e, hb, hc, h⟩ := rowOf_at 4 (fun _ => rfl) h hx
  unfold encF at h
  simp only [TS, TP] at h
  obtain ⟨c0, _, rfl, ⟨rfl, h0⟩, c1, _, rfl, ⟨rfl, h1⟩, c3, _, rfl, ⟨Ad, kd, rfl, h3, r3⟩, c4, _, rfl, ⟨As, ks, rfl, h6, r6⟩, rfl⟩ := h
  rw [rowOf_len] at h3
  rw [encSL_len] at h6
  rw [rowOf_len, encSL_len] at hc
  exact ⟨b, o, Ad, kd, As, ks, e, hb, ⟨hc 0 _ rfl, hc 1 _ rfl, hc 2 _ rfl, hc 3 _ rfl⟩, ⟨h0, h1⟩, ⟨h3, r3⟩, h6, r6⟩
theorem doc_cells {w : World} {P : Nat → Prop} {D : DocT} {c0 c1 : Value} (h : TS w P (encDoc D) [c0, c1]) : ∃ Ao ko Af kf, c0 = .slice Ao D.ops.length ko ∧ c1 = .slice Af D.frags.length kf ∧ (D.ops.length ≤ 9223372036854775807 ∧ RowT w P (rowOf encOp D.ops) Ao) ∧ D.frags.length ≤ 9223372036854775807 ∧ RowT w P (rowOf encF D.frags) Af := by
  unfold encDoc at h
  simp only [TS, TP] at h
  obtain ⟨x0, _, e0, ⟨Ao, ko, rfl, h0, r0⟩, x1, _, e1, ⟨Af, kf, rfl, h1, r1⟩, e2⟩ := h
  simp only [List.cons.injEq] at e0 e1
  obtain ⟨rfl, e0⟩ := e0
  subst e0
  obtain ⟨e1, _⟩ := (List.cons.injEq .. ▸ e1 : _)
  subst e1
  rw [rowOf_len] at h0 h1 ⊢
  rw [rowOf_len]
  exact ⟨Ao, ko, Af, kf, rfl, rfl, ⟨h0, r0⟩, h1, r1⟩
end Go.Proofs.Ytgihnhdknphhpaa
