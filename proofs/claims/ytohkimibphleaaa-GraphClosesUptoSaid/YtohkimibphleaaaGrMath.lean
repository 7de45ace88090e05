/- What a search reaches: just what can be come to from where it began. -/
import Derived.Test.YtohkimibphleaaaGrRun
namespace Go.Proofs.Ytohkimibphleaaa
open Go.RowKit

/-- What can be come to from P. -/
inductive RchI (ws : List (List Nat)) (P : List Nat) : Nat → Prop where
  | start {p : Nat} (h : p ∈ P) : RchI ws P p
  | step {x y : Nat} {l : List Nat} (h : RchI ws P x) (hl : ws[x]? = some l) (hy : y ∈ l) : RchI ws P y
theorem RchI.sub {ws : List (List Nat)} {P Q : List Nat} (h : ∀ p, p ∈ P → RchI ws Q p) {x : Nat} (hx : RchI ws P x) : RchI ws Q x := by
  induction hx with
  | start hp => exact h _ hp
  | step _ hl hy ih => exact ih.step hl hy
theorem RchI.split {ws : List (List Nat)} {P Q : List Nat} {x : Nat} (hx : RchI ws (P ++ Q) x) : RchI ws P x ∨ RchI ws Q x := by
  induction hx with
  | start hp => exact (List.mem_append.1 hp).imp .start .start
  | step _ hl hy ih => exact ih.imp (fun h => h.step hl hy) (fun h => h.step hl hy)
/-- Where the search is: what is begun leads on, or is still to be taken. -/
def InvS (ws : List (List Nat)) (tn : Int) (s : SS) : Prop := ∀ x l, ws[x]? = some l → reachB s tn x = true → ∀ y, y ∈ l → reachB s tn y = true ∨ ∃ t, (x, t) ∈ s.stk ∧ y ∈ t
def SndS (R : Nat → Prop) (tn : Int) (s : SS) : Prop := (∀ x, reachB s tn x = true → R x) ∧ ∀ a t, (a, t) ∈ s.stk → ∀ y, y ∈ t → R y
def ClR (ws : List (List Nat)) (R : Nat → Prop) : Prop := ∀ x l y, R x → ws[x]? = some l → y ∈ l → R y
theorem reach_begin {ws : List (List Nat)} {tn : Int} {s : SS} {x : Nat} (hx : x < s.bg.length) (y : Nat) : reachB (beginS ws tn x s) tn y = true ↔ y = x ∨ reachB s tn y = true := by
  unfold reachB beginS
  show ((s.bg.set x tn).getD y 0 == tn) = true ↔ _
  rw [List.getD_eq_getElem?_getD, List.getD_eq_getElem?_getD]
  by_cases e : y = x
  · subst e
    rw [List.getElem?_set_self hx]
    simp
  · rw [List.getElem?_set_ne (fun h => e h.symm)]
    simp [e]
theorem scan_out {s : SS} {tn : Int} : ∀ {l : List Nat} {rg : Bool}, (∀ x t rg', scanS s tn l rg = (some (x, t), rg') → ∃ p, l = p ++ x :: t ∧ (∀ y, y ∈ p → reachB s tn y = true) ∧ reachB s tn x = false) ∧ ∀ rg', scanS s tn l rg = (none, rg') → ∀ y, y ∈ l → reachB s tn y = true
  | [], rg => ⟨fun x t rg' h => (by rw [scanS] at h; cases h), fun rg' _ y hy => (by cases hy)⟩
  | z :: t, rg => by
    rw [scanS]
    by_cases hz : reachB s tn z = true
    · rw [if_pos hz]
      have ih := scan_out (s := s) (tn := tn) (l := t) (rg := rg || !(s.en.getD z 0 == tn))
      refine ⟨fun x u rg' h => ?_, fun rg' h y hy => ?_⟩
      · obtain ⟨p, e, h1, h2⟩ := ih.1 x u rg' h
        exact ⟨z :: p, by rw [e]; rfl, fun y hy => by
          rcases List.mem_cons.1 hy with rfl | hy
          · exact hz
          · exact h1 y hy, h2⟩
      · rcases List.mem_cons.1 hy with rfl | hy
        · exact hz
        · exact ih.2 rg' h y hy
    · rw [if_neg hz]
      refine ⟨fun x u rg' h => ?_, fun rg' h => by cases h⟩
      injection h with h _
      injection h with h
      injection h with h1 h2
      subst h1 h2
      exact ⟨[], rfl, fun y hy => (by cases hy), by simpa using hz⟩
section
variable {ws : List (List Nat)} {tn : Int} {s : SS}
theorem begin_inv {x : Nat} (hx : x < s.bg.length) (hi : InvS ws tn s) (hw : x < ws.length) : InvS ws tn (beginS ws tn x s) := fun z l hz hr y hy => by
  rw [reach_begin hx] at hr ⊢
  rcases hr with rfl | hr
  · right
    refine ⟨ws.getD z [], List.mem_cons_self .., ?_⟩
    rw [List.getD_eq_getElem?_getD, hz]
    exact hy
  · rcases hi z l hz hr y hy with h | ⟨t, h1, h2⟩
    · exact .inl (.inr h)
    · exact .inr ⟨t, List.mem_cons_of_mem _ h1, h2⟩
theorem begin_snd {R : Nat → Prop} (hR : ClR ws R) {x : Nat} (hx : x < s.bg.length) (hRx : R x) (hs : SndS R tn s) : SndS R tn (beginS ws tn x s) := by
  refine ⟨fun y hy => ?_, fun a t ht y hy => ?_⟩
  · rw [reach_begin hx] at hy
    rcases hy with rfl | hy
    · exact hRx
    · exact hs.1 y hy
  · rcases List.mem_cons.1 ht with e | ht
    · injection e with e1 e2
      subst e1 e2
      rw [List.getD_eq_getElem?_getD] at hy
      cases hw : ws[a]? with
      | none => rw [hw] at hy; cases hy
      | some l => rw [hw] at hy; exact hR a l y hRx hw hy
    · exact hs.2 a t ht y hy
theorem step_nil (h : s.stk = []) : stepS ws tn s = s := by unfold stepS; rw [h]
theorem step_end {a : Nat} {l : List Nat} {rest : List (Nat × List Nat)} {rg : Bool} (h : s.stk = (a, l) :: rest) (hq : scanS s tn l s.ring = (none, rg)) : stepS ws tn s = { s with en := s.en.set a tn, stk := rest, ring := rg } := by
  unfold stepS
  rw [h]
  show (match scanS s tn l s.ring with | (some (x, t), rg) => beginS ws tn x { s with stk := (a, t) :: rest, ring := rg } | (none, rg) => { s with en := s.en.set a tn, stk := rest, ring := rg }) = _
  rw [hq]
theorem step_on {a x : Nat} {l t : List Nat} {rest : List (Nat × List Nat)} {rg : Bool} (h : s.stk = (a, l) :: rest) (hq : scanS s tn l s.ring = (some (x, t), rg)) : stepS ws tn s = beginS ws tn x { s with stk := (a, t) :: rest, ring := rg } := by
  unfold stepS
  rw [h]
  show (match scanS s tn l s.ring with | (some (x, t), rg) => beginS ws tn x { s with stk := (a, t) :: rest, ring := rg } | (none, rg) => { s with en := s.en.set a tn, stk := rest, ring := rg }) = _
  rw [hq]
/-- A step of the search. -/
theorem step_all (hws : ∀ l, l ∈ ws → l.length ≤ 1099511627776 ∧ ∀ x, x ∈ l → x < ws.length) (ho : OkR ws tn s) (hi : InvS ws tn s) : OkR ws tn (stepS ws tn s) ∧ InvS ws tn (stepS ws tn s) ∧ (∀ y, reachB s tn y = true → reachB (stepS ws tn s) tn y = true) ∧ ∀ R, ClR ws R → SndS R tn s → SndS R tn (stepS ws tn s) := by
  cases hst : s.stk with
  | nil =>
    rw [step_nil hst]
    exact ⟨ho, hi, fun _ h => h, fun _ _ h => h⟩
  | cons e rest =>
    obtain ⟨a, l⟩ := e
    have hsc := scan_out (s := s) (tn := tn) (l := l) (rg := s.ring)
    rcases hq : scanS s tn l s.ring with ⟨_ | ⟨x, t⟩, rg⟩
    · have hall := hsc.2 rg hq
      rw [step_end hst hq]
      refine ⟨(ho.pop hst).1, fun z m hz hr y hy => ?_, fun _ h => h, fun R _ hs => ⟨hs.1, fun b u hb => hs.2 b u (by rw [hst]; exact List.mem_cons_of_mem _ hb)⟩⟩
      rcases hi z m hz hr y hy with h | ⟨t, h1, h2⟩
      · exact .inl h
      · rw [hst] at h1
        rcases List.mem_cons.1 h1 with e | h1
        · injection e with e1 e2
          subst e1 e2
          exact .inl (hall y h2)
        · exact .inr ⟨t, h1, h2⟩
    · obtain ⟨p, hp, hpr, hxr⟩ := hsc.1 x t rg hq
      rw [step_on hst hq]
      have hxl : x < ws.length := (ho.st a l (by rw [hst]; exact List.mem_cons_self ..)).2.2 x (by rw [hp]; simp)
      have hcut := (ho.cut (t := t) (rg := rg) hst (by rw [hp]; simp; omega) (fun y hy => by rw [hp]; simp [hy])).1
      have hbl : x < ({ s with stk := (a, t) :: rest, ring := rg } : SS).bg.length := by rw [hcut.bl]; exact hxl
      have hxr' : reachB { s with stk := (a, t) :: rest, ring := rg } tn x = false := hxr
      refine ⟨(hcut.begin hws hxl hxr').1, fun z m hz hr y hy => ?_, fun y hy => (reach_begin hbl y).2 (.inr hy), fun R hR hs => ?_⟩
      · rw [reach_begin hbl] at hr ⊢
        rcases hr with rfl | hr
        · right
          refine ⟨ws.getD z [], List.mem_cons_self .., ?_⟩
          rw [List.getD_eq_getElem?_getD, hz]
          exact hy
        · rcases hi z m hz hr y hy with h | ⟨u, h1, h2⟩
          · exact .inl (.inr h)
          · rw [hst] at h1
            rcases List.mem_cons.1 h1 with e | h1
            · injection e with e1 e2
              subst e1 e2
              rw [hp] at h2
              rcases List.mem_append.1 h2 with h2 | h2
              · exact .inl (.inr (hpr y h2))
              · rcases List.mem_cons.1 h2 with rfl | h2
                · exact .inl (.inl rfl)
                · exact .inr ⟨t, List.mem_cons_of_mem _ (List.mem_cons_self ..), h2⟩
            · exact .inr ⟨u, List.mem_cons_of_mem _ (List.mem_cons_of_mem _ h1), h2⟩
      · refine begin_snd hR hbl (hs.2 a l (by rw [hst]; exact List.mem_cons_self ..) x (by rw [hp]; simp)) ⟨hs.1, fun b u hb y hy => ?_⟩
        rcases List.mem_cons.1 hb with e | hb
        · injection e with e1 e2
          subst e1 e2
          exact hs.2 b l (by rw [hst]; exact List.mem_cons_self ..) y (by rw [hp]; simp [hy])
        · exact hs.2 b u (by rw [hst]; exact List.mem_cons_of_mem _ hb) y hy
theorem iter_all (hws : ∀ l, l ∈ ws → l.length ≤ 1099511627776 ∧ ∀ x, x ∈ l → x < ws.length) (ho : OkR ws tn s) (hi : InvS ws tn s) : ∀ k, OkR ws tn (iterS ws tn k s) ∧ InvS ws tn (iterS ws tn k s) ∧ (∀ y, reachB s tn y = true → reachB (iterS ws tn k s) tn y = true) ∧ ∀ R, ClR ws R → SndS R tn s → SndS R tn (iterS ws tn k s)
  | 0 => ⟨ho, hi, fun _ h => h, fun _ _ h => h⟩
  | k + 1 => by
    obtain ⟨h1, h2, h3, h4⟩ := iter_all hws ho hi k
    obtain ⟨g1, g2, g3, g4⟩ := step_all hws h1 h2
    exact ⟨g1, g2, fun y hy => g3 y (h3 y hy), fun R hR hs => g4 R hR (h4 R hR hs)⟩
end
end Go.Proofs.Ytohkimibphleaaa
