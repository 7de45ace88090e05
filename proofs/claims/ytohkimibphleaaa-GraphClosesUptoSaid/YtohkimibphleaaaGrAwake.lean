/- The page's example of graph. -/
import Derived.Test.YtohkimibphleaaaGrLoops
import Derived.Test.YtohkimibphleaaaGrRule
namespace Go.Proofs.Ytohkimibphleaaa
open Go.RowKit

def nmA : ByteArray := ⟨#[65]⟩
def nmT : ByteArray := ⟨#[84]⟩
def selA : SelT := .mk 1 ⟨#[]⟩ nmA .nil [] ⟨#[]⟩ .nil
def docA : DocT := ⟨[], [⟨nmA, nmT, [], .cons selA .nil⟩]⟩
def csA : List Value := [.int .i64 1, .string ⟨#[]⟩, .string nmA, .slice none 0 0, .slice none 0 0, .string ⟨#[]⟩, .slice none 0 0]
theorem cells_at {w : World} {g : Nat} {l : List Value} {t : TypeId} (h : w.heap[g]? = some (.cells l.toArray t (0, 0))) (j : Nat) (u : Value) (hu : l[j]? = some u) : w.cell? ⟨g, 0 + j, none⟩ = some u := by
  rw [Nat.zero_add]
  simp [World.cell?, h]
  obtain ⟨hl, e⟩ := List.getElem?_eq_some_iff.1 hu
  simpa using hu
theorem selsA_at {w : World} {B g : Nat} (h : w.heap[g]? = some (.cells csA.toArray 55 (0, 0))) (hg : g < B) : SelsAt w B (.cons selA .nil) (some ⟨g, 0, none⟩) := by
  have hc := cells_at h
  constructor
  · rw [encSL]
    unfold RowT
    refine ⟨g, 0, csA, rfl, hg, hc, ?_, by rw [encSL]; unfold RowT; trivial⟩
    unfold selA csA
    rw [encS]
    simp only [TS, TP]
    exact ⟨_, _, rfl, ⟨rfl, trivial⟩, _, _, rfl, ⟨rfl, by show (0 : Nat) ≤ _; decide⟩, _, _, rfl, ⟨rfl, by show (1 : Nat) ≤ _; decide⟩, _, _, rfl, ⟨none, 0, by rw [encM]; rfl, by rw [encM]; exact Nat.zero_le _, by rw [encM]; unfold RowT; trivial⟩, _, _, rfl, ⟨none, 0, rfl, Nat.zero_le _, by rw [rowOf]; unfold RowT; trivial⟩, _, _, rfl, ⟨rfl, by show (0 : Nat) ≤ _; decide⟩, _, _, rfl, ⟨none, 0, by rw [encSL]; rfl, by rw [encSL]; exact Nat.zero_le _, by rw [encSL]; unfold RowT; trivial⟩, rfl⟩
  · rw [CapL]
    exact ⟨g, 0, none, 0, rfl, hg, hc 6 _ rfl, Nat.le_refl _, by rw [capX_eq]; exact capL_nil _, capL_nil _⟩
theorem docA_at {w : World} {B g g2 : Nat} (h : w.heap[g]? = some (.cells csA.toArray 55 (0, 0))) (h2 : w.heap[g2]? = some (.cells #[.string nmA, .string nmT, .slice none 0 0, .slice (some ⟨g, 0, none⟩) 1 1] 30 (0, 0))) (hg : g < B) (hg2 : g2 < B) : DocAt w B docA (.slice none 0 0) (.slice (some ⟨g2, 0, none⟩) 1 1) := by
  have hS := selsA_at h hg
  have hc := cells_at (l := [.string nmA, .string nmT, .slice none 0 0, .slice (some ⟨g, 0, none⟩) 1 1]) h2
  refine ⟨?_, fun A k e q l b p As ks hq => ?_, fun A k e q l b p As ks hq hA hcl hR => ?_⟩
  · unfold encDoc docA
    simp only [TS, TP]
    refine ⟨_, _, rfl, ⟨none, 0, rfl, Nat.zero_le _, by rw [rowOf]; unfold RowT; trivial⟩, _, _, rfl, ⟨some ⟨g2, 0, none⟩, 1, rfl, by show (1 : Nat) ≤ _; decide, ?_⟩, rfl⟩
    rw [rowOf]
    unfold RowT
    refine ⟨g2, 0, _, rfl, hg2, hc, ?_, by rw [rowOf]; unfold RowT; trivial⟩
    unfold encF
    simp only [TS, TP]
    exact ⟨_, _, rfl, ⟨rfl, by show (1 : Nat) ≤ _; decide⟩, _, _, rfl, ⟨rfl, by show (1 : Nat) ≤ _; decide⟩, _, _, rfl, ⟨none, 0, rfl, Nat.zero_le _, by rw [rowOf]; unfold RowT; trivial⟩, _, _, rfl, ⟨some ⟨g, 0, none⟩, 1, by rw [encSL_len]; rfl, by rw [encSL_len]; show (1 : Nat) ≤ _; decide, hS.1⟩, rfl⟩
  · have hq : (([] : List OpT)[q]?).map (fun x : OpT => x.sels) = some l := hq
    simp at hq
  · have e : Value.slice (some ⟨g2, 0, none⟩) 1 1 = .slice A 1 k := e
    injection e with e1 _ e3
    subst e1 e3
    injection hA with hA
    injection hA with hA1 hA2
    subst hA1 hA2
    obtain ⟨x, hx, rfl⟩ := Option.map_eq_some_iff.1 hq
    have hx : [(⟨nmA, nmT, [], .cons selA .nil⟩ : FragT)][q]? = some x := hx
    obtain rfl : q = 0 := by
      have := (List.getElem?_eq_some_iff.1 hx).1
      simp at this
      exact this
    have hx : (⟨nmA, nmT, [], .cons selA .nil⟩ : FragT) = x := Option.some.inj hx
    subst hx
    have h3 := hc 3 _ rfl
    have hcl : w.cell? ⟨g2, 0 + 3, none⟩ = _ := hcl
    rw [h3] at hcl
    injection hcl with hcl
    injection hcl with e1 _ e3
    subst e1 e3
    exact ⟨Nat.le_refl _, hS.2⟩
theorem docN_at (w : World) (B : Nat) : DocAt w B ⟨[], []⟩ (.slice none 0 0) (.slice none 0 0) := by
  refine ⟨?_, fun A k e q l b p As ks hq => ?_, fun A k e q l b p As ks hq => ?_⟩
  · unfold encDoc
    simp only [TS, TP]
    exact ⟨_, _, rfl, ⟨none, 0, rfl, Nat.zero_le _, by rw [rowOf]; unfold RowT; trivial⟩, _, _, rfl, ⟨none, 0, rfl, Nat.zero_le _, by rw [rowOf]; unfold RowT; trivial⟩, rfl⟩
  · have hq : (([] : List OpT)[q]?).map (fun x : OpT => x.sels) = some l := hq
    simp at hq
  · have hq : (([] : List FragT)[q]?).map (fun x : FragT => x.sels) = some l := hq
    simp at hq
theorem prA : gpreL (.cons selA .nil) = [selA] := by rw [gpreL_cons, gpreL_nil]; show selA :: (gpreL .nil ++ []) = _; rw [gpreL_nil]; rfl
theorem spA : sprL (gpreL (.cons selA .nil)) = [nmA] := by rw [prA]; rfl
theorem stA : startP docA (.cons selA .nil) = [0] := by unfold startP; rw [spA]; rfl
theorem waA : waysF docA = [[0]] := by
  show [plcN (namesF docA) (sprL (gpreL (.cons selA .nil)))] = _
  rw [spA]; rfl
theorem szA : szDoc docA ≤ 1099511627776 := by
  show ([] : List Nat).sum + (szFr ⟨nmA, nmT, [], .cons selA .nil⟩ + 0) ≤ _
  unfold szFr
  show 0 + (nmA.size + nmT.size + 2 + 0 + szSels (.cons selA .nil) + 0) ≤ _
  rw [szSels, szSels, selA, szSel, szSels, sizeM]
  decide
theorem rcA (f : Nat → Bool) (hf : ∀ q, f q = true ↔ RchI (waysF docA) (startP docA (.cons selA .nil)) q) : rchUp docA f 1 = [nmA] := by
  have h0 : f 0 = true := (hf 0).2 (.start (by rw [stA]; exact List.mem_singleton.2 rfl))
  rw [rchUp, rchUp, if_pos h0]
  rfl
theorem lpA (s : SS) (h : FsR (waysF docA) 1 s) : s.ring = true := by
  rw [waA] at h
  obtain ⟨m, h1, h2, h3⟩ := h
  have h1 : m = newS 1 := h1
  subst h1
  unfold FromR at h2
  rw [if_neg (by rw [reach_new]; simp)] at h2
  obtain ⟨k, rfl⟩ := h2
  cases k with
  | zero => cases h3
  | succ k =>
    have hk : ∀ k, iterS [[0]] 1 (k + 1) (beginS [[0]] 1 0 (newS 1)) = ⟨[1], [1], [], true⟩ := by
      intro k
      induction k with
      | zero => rfl
      | succ k ih => rw [iterS, ih]; rfl
    rw [hk k]
end Go.Proofs.Ytohkimibphleaaa
