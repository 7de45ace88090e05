/- A range over a function whose iterator and whose rounds write one block that both read: a law after the library's own (Derived.RangeFuncKeeps), with the caller's word on what a round leaves. -/
import Derived.Test.YtgihnhdknphhpaaProg
import Derived.RangeFuncNested
import Derived.RangeFuncBound
import Derived.RangeFuncCalls
import Derived.RangeFuncLeaves
import Derived.WalkKit
import Derived.OwnWalkIn
import Derived.TacticsInMore
import Derived.LoopNIn
import Derived.LoopIn
namespace Go.Proofs.Ytgihnhdknphhpaa
open Go.RowKit

/-- How a round's body may be left: the record and the block beside it stand. -/
def postZ (l d : Nat) (W2 : World) (I : World → Prop) (Ix : Code → World → Prop) : Exit → Act → World → Prop
  | .normal, _, W' => (W'.heap[l]? = W2.heap[l]? ∧ W'.heap[d]? = W2.heap[d]?) ∧ I W'
  | .ret, _, W' => (W'.heap[l]? = W2.heap[l]? ∧ W'.heap[d]? = W2.heap[d]?) ∧ Ix .ret W'
  | .exit id, _, W' => (W'.heap[l]? = W2.heap[l]? ∧ W'.heap[d]? = W2.heap[d]?) ∧ Ix (.exit id) W'
  | .goto t, _, W' => (W'.heap[l]? = W2.heap[l]? ∧ W'.heap[d]? = W2.heap[d]?) ∧ Ix (.goto t) W'
  | .panic _, _, _ => False
  | .outgrown, _, _ => False
theorem wpIn_rangeFunc_z {F : Fence} {n : Nat} {P : Program} {α γ : Type} {g : Operand} {ps : Array Tmp} {assign body : Code} {Q : Exit → Act → World → Prop} {a : Act} {w : World}
    (hro : F.round = none) (h1 : 1 ≤ n) {gf : Nat} {lb : Array Value} (hg : a.eval g = .func (.func gf) #[] lb) (hFg : F.fn gf) (eg : ∀ args w, (callFunc gf args).run P w = .ok (.enter gf args) w)
    (N : Nat) (encs : α → Array Value) (Lies : Nat → α → World → Prop) (T TA R : γ → γ → World → World → Prop) (hps : ∀ x, (encs x).size = ps.size) (Z0 : γ)
    (I : Nat → γ → World → Prop) (Ix : Code → Nat → World → Prop)
    (hTl : ∀ Z Z' A B, T Z Z' A B → ∀ b o, (b = w.heap.size ∨ b = w.heap.size + 1) → A.heap[b]? = some o → B.heap[b]? = some o)
    (hIT : ∀ i Z Z' A B, I i Z A → T Z Z' A B → I i Z' B)
    (hIr : ∀ i Z W o', I i Z W → w.heap.size + 1 < W.heap.size → I i Z (W.putObj (w.heap.size + 1) o'))
    (hIxr : ∀ c i W o', Ix c i W → w.heap.size + 1 < W.heap.size → Ix c i (W.putObj (w.heap.size + 1) o'))
    (hRc : ∀ i Z Z1 Z' W W1 W3 o o', I i Z W → TA Z Z1 W W1 → w.heap.size + 1 < W1.heap.size → R Z1 Z' (W1.putObj (w.heap.size + 1) o) W3 → R Z Z' W (W3.putObj (w.heap.size + 1) o'))
    (h0 : ∀ W1, Below w.heap.size w W1 → W1.heap.size = w.heap.size + 2 → I 0 Z0 W1)
    (hseq : ∀ (W1 : World) (J : Nat → γ → World → Prop) (Jx : Nat → World → Prop), Below w.heap.size w W1 → W1.heap.size = w.heap.size + 2 → (∀ i Z Z' A B, J i Z A → T Z Z' A B → J i Z' B) →
      (∀ i x Z W, i < N → J i Z W → Lies i x W → YieldAt F (n - 1 - 1) P (w.heap.size + 1) (encs x) W fun e W' =>
        (e = .returned (.bool true) ∧ ∃ Z', J (i + 1) Z' W' ∧ R Z Z' W W') ∨ (e = .returned (.bool false) ∧ Jx i W')) →
      J 0 Z0 W1 → CallsIn F (n - 1) P gf (#[.func (.yield (w.heap.size + 1)) #[] #[]] ++ lb) W1 fun e W' => (∃ v, e = .returned v) ∧ ((∃ Z, J N Z W') ∨ ∃ i, i < N ∧ Jx i W'))
    (hround : ∀ i x Z W, i < N → I i Z W → Lies i x W → w.heap.size + 1 < W.heap.size →
      assign.wpIn (F.inRound (w.heap.size + 1)) (n - 1 - 1) P (Exit.then (fun a₁ W₁ => ∃ Z₁, T Z Z₁ W W₁ ∧ TA Z Z₁ W W₁ ∧ I i Z₁ W₁ ∧ ∀ o, body.wpIn (F.inRound (w.heap.size + 1)) (n - 1 - 1) P (postZ (w.heap.size + 1) w.heap.size (W₁.putObj (w.heap.size + 1) o) (fun W' => ∃ Z', I (i + 1) Z' W' ∧ R Z₁ Z' (W₁.putObj (w.heap.size + 1) o) W') (fun c W' => Ix c i W')) a₁ (W₁.putObj (w.heap.size + 1) o)) (fun _ _ _ => False)) { tmps := (ps.zip (encs x)).foldl (fun t (p, v) => t.setIfInBounds p v) a.tmps, defers := [] } W)
    (hdone : ∀ (Z : γ) (W : World), I N Z W → W.heap[w.heap.size]? = some (.deferred (some [])) → Q .normal { a with defers := { target := .collected w.heap.size, args := #[] } :: a.defers } W)
    (hstop : ∀ (c : Code) (i : Nat) (W : World), i < N → Ix c i W → W.heap[w.heap.size]? = some (.deferred (some [])) → c.wpIn F n P Q { a with defers := { target := .collected w.heap.size, args := #[] } :: a.defers } W) :
    (Code.rangeFunc g ps assign body).wpIn F n P Q a w := by
  refine wpIn_rangeFunc ?_
  intro fn hfn
  rw [hro]
  obtain ⟨rec, hrec⟩ : ∃ rec : LoopState → Option Code → Loop, rec = fun st pe => { state := st, pending := pe, fn, tmps := a.tmps, params := ps, assign, body, defers := w.heap.size } := ⟨_, rfl⟩
  obtain ⟨W1, hW1⟩ : ∃ W1, (w.alloc (.deferred (some []))).alloc (.loop (rec .ready none)) = W1 := ⟨_, rfl⟩
  have hL1 : W1.heap[w.heap.size + 1]? = some (.loop (rec .ready none)) := by
    rw [← hW1]; have := World.alloc_heap_new (w.alloc (.deferred (some []))) (.loop (rec .ready none)); rwa [World.size_alloc] at this
  have hK1 : W1.heap[w.heap.size]? = some (.deferred (some [])) := by
    rw [← hW1]; exact (Below.heap_alloc _ _ _ (by simp)).trans (World.alloc_heap_new w _)
  have hb1 : Below w.heap.size w W1 := by
    rw [← hW1]; exact ((Below.refl _ w).alloc (Nat.le_refl _) _).alloc (by simp) _
  have hs1 : W1.heap.size = w.heap.size + 2 := by rw [← hW1]; simp
  refine ⟨w.heap.size + 1, [{ target := .collected w.heap.size, args := #[] }], W1, { target := .fn (.func gf) lb, args := #[.func (.yield (w.heap.size + 1)) #[] #[]] }, W1, gf,
    #[.func (.yield (w.heap.size + 1)) #[] #[]] ++ lb, W1, ?_, ?_, ?_, ?_, fun _ => h1, ?_⟩
  · rw [← hW1, hrec]; exact run_enterLoop_outer _ _ _ _ _
  · simp only [resolve, hg]
    simp [go_sem]
  · intro f' hf'; simp [Target.leads] at hf'; subst hf'; exact hFg
  · simp [invoke, go_sem, eg]
  · refine (hseq W1
      (fun i Z W => I i Z W ∧ W.heap[w.heap.size + 1]? = some (.loop (rec .ready none)) ∧ W.heap[w.heap.size]? = some (.deferred (some [])))
      (fun i W => ∃ c, Ix c i W ∧ W.heap[w.heap.size + 1]? = some (.loop (rec .done (some c))) ∧ W.heap[w.heap.size]? = some (.deferred (some [])))
      hb1 hs1 (fun i Z Z' A B h ht => ⟨hIT i Z Z' A B h.1 ht, hTl Z Z' A B ht _ _ (.inr rfl) h.2.1, hTl Z Z' A B ht _ _ (.inl rfl) h.2.2⟩) ?_ ⟨h0 W1 hb1 hs1, hL1, hK1⟩).mono ?_
    · -- one round
      rintro i x Z W hx ⟨hi, hl, hk⟩ hLie
      have hlt : w.heap.size + 1 < W.heap.size := (Array.getElem?_eq_some_iff.1 hl).1
      have hy := run_yield (P := P) (args := encs x) hl (by rw [hrec]; exact hps x)
      rw [hrec] at hy
      refine ⟨fn, _, assign, body, hy, roundIn_of_wpIn hfn (wpIn_mono (hround i x Z W hx hi hLie hlt) ?_)⟩
      rintro e a1 V1 hp
      cases e with
      | normal =>
        obtain ⟨Z1, ht, hta, hi1, hbody⟩ := hp
        have hl1 := hTl Z Z1 W V1 ht _ _ (.inr rfl) hl
        have hk1 := hTl Z Z1 W V1 ht _ _ (.inl rfl) hk
        have hlt1 : w.heap.size + 1 < V1.heap.size := (Array.getElem?_eq_some_iff.1 hl1).1
        refine ⟨_, run_beginRound hl1 (by rw [hrec]), ?_⟩
        have hl2 : (V1.putObj (w.heap.size + 1) (.loop { rec .ready none with state := .busy })).heap[w.heap.size + 1]? = some (.loop { rec .ready none with state := .busy }) := World.putObj_heap_same hlt1
        have hk2 : (V1.putObj (w.heap.size + 1) (.loop { rec .ready none with state := .busy })).heap[w.heap.size]? = some (.deferred (some [])) := (World.putObj_heap_other (by omega)).trans hk1
        refine wpIn_mono (hbody (.loop { rec .ready none with state := .busy })) ?_
        have fin : ∀ (jump : Option Code) (W3 : World), W3.heap[w.heap.size + 1]? = (V1.putObj (w.heap.size + 1) (.loop { rec .ready none with state := .busy })).heap[w.heap.size + 1]? ∧ W3.heap[w.heap.size]? = (V1.putObj (w.heap.size + 1) (.loop { rec .ready none with state := .busy })).heap[w.heap.size]? →
            (Instr.endRound (w.heap.size + 1) jump).run P W3 = .ok (.bool jump.isNone) (W3.putObj (w.heap.size + 1) (.loop (rec (if jump.isNone then .ready else .done) jump))) ∧
            w.heap.size + 1 < W3.heap.size ∧
            (W3.putObj (w.heap.size + 1) (.loop (rec (if jump.isNone then .ready else .done) jump))).heap[w.heap.size + 1]? = some (.loop (rec (if jump.isNone then .ready else .done) jump)) ∧
            (W3.putObj (w.heap.size + 1) (.loop (rec (if jump.isNone then .ready else .done) jump))).heap[w.heap.size]? = some (.deferred (some [])) := fun jump W3 hk3 => by
          have hl3 := hk3.1.trans hl2
          have := run_endRound (P := P) jump hl3
          rw [hrec] at this ⊢
          exact ⟨this, (Array.getElem?_eq_some_iff.1 hl3).1, World.putObj_heap_same (Array.getElem?_eq_some_iff.1 hl3).1, (World.putObj_heap_other (by omega)).trans (hk3.2.trans hk2)⟩
        rintro e a3 W3 hp
        cases e with
        | normal =>
          obtain ⟨hk3, Z', hi3, hr3⟩ := hp
          obtain ⟨hr, hl3, hl4, hk4⟩ := fin none W3 hk3
          exact ⟨_, _, hr, .inl ⟨rfl, Z', ⟨hIr _ _ _ _ hi3 hl3, hl4, hk4⟩, hRc i Z Z1 Z' W V1 W3 _ _ hi hta hlt1 hr3⟩⟩
        | ret =>
          obtain ⟨hk3, hi3⟩ := hp
          obtain ⟨hr, hl3, hl4, hk4⟩ := fin (some .ret) W3 hk3
          exact ⟨_, _, hr, .inr ⟨rfl, .ret, hIxr _ _ _ _ hi3 hl3, hl4, hk4⟩⟩
        | exit id =>
          obtain ⟨hk3, hi3⟩ := hp
          obtain ⟨hr, hl3, hl4, hk4⟩ := fin (some (.exit id)) W3 hk3
          exact ⟨_, _, hr, .inr ⟨rfl, .exit id, hIxr _ _ _ _ hi3 hl3, hl4, hk4⟩⟩
        | goto t =>
          obtain ⟨hk3, hi3⟩ := hp
          obtain ⟨hr, hl3, hl4, hk4⟩ := fin (some (.goto t)) W3 hk3
          exact ⟨_, _, hr, .inr ⟨rfl, .goto t, hIxr _ _ _ _ hi3 hl3, hl4, hk4⟩⟩
        | panic ch => exact hp.elim
        | outgrown => exact hp.elim
      | ret => exact hp.elim
      | exit id => exact hp.elim
      | goto t => exact hp.elim
      | panic ch => exact hp.elim
      | outgrown => exact hp.elim
    · -- the iterator has ended
      rintro e W ⟨⟨v, rfl⟩, h⟩
      rcases h with ⟨Z, hi, hl, hk⟩ | ⟨i, hlen, c, hc, hl, hk⟩
      · exact ⟨none, _, by have := run_endLoop (P := P) hl (by rw [hrec]; simp); rw [hrec] at this; exact this, hdone Z _ (hIr _ _ _ _ hi (Array.getElem?_eq_some_iff.1 hl).1) ((World.putObj_heap_other (by omega)).trans hk)⟩
      · exact ⟨some c, _, by have := run_endLoop (P := P) hl (by rw [hrec]; simp); rw [hrec] at this; exact this, hstop c i _ hlen (hIxr _ _ _ _ hc (Array.getElem?_eq_some_iff.1 hl).1) ((World.putObj_heap_other (by omega)).trans hk)⟩
end Go.Proofs.Ytgihnhdknphhpaa
