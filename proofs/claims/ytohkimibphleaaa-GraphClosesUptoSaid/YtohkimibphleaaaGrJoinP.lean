/- What is reached, as names: each once. -/
import Derived.Test.YtohkimibphleaaaGrReach
namespace Go.Proofs.Ytohkimibphleaaa
open Go.RowKit

theorem fst_at {N : List ByteArray} {s : ByteArray} (h : inN N s = true) : N[fstIx N s]? = some s := by
  have hl := fst_lt h
  unfold fstIx at hl ⊢
  rw [if_pos h] at hl ⊢
  have hp := List.findIdx_getElem (p := fun t : ByteArray => t.data.toList == s.data.toList) (w := hl)
  rw [List.getElem?_eq_getElem hl]
  congr 1
  exact ByteArray.ext (Array.toList_inj.1 (eq_of_beq hp))
/-- What is reached is the first of its name. -/
theorem rch_first {D : DocT} {ls : List ByteArray} {q : Nat} (h : RchI (waysF D) (plcN (namesF D) ls) q) : ∃ s, (namesF D)[q]? = some s ∧ fstIx (namesF D) s = q ∧ inN (namesF D) s = true := by
  have key : ∀ {ls : List ByteArray} {q : Nat}, q ∈ plcN (namesF D) ls → ∃ s, (namesF D)[q]? = some s ∧ fstIx (namesF D) s = q ∧ inN (namesF D) s = true := fun h => by
    unfold plcN at h
    obtain ⟨s, _, hs⟩ := List.mem_filterMap.1 h
    split at hs
    · next hb =>
      have e := Option.some.inj hs
      exact ⟨s, by rw [← e]; exact fst_at hb, e, hb⟩
    · cases hs
  cases h with
  | start hp => exact key hp
  | step hx hl hy =>
    unfold waysF at hl
    rw [List.getElem?_map] at hl
    obtain ⟨x, _, rfl⟩ := Option.map_eq_some_iff.1 hl
    exact key hy
theorem in_rch {D : DocT} {f : Nat → Bool} {s : ByteArray} : ∀ {n : Nat}, inN (rchUp D f n) s = true ↔ ∃ q, q < n ∧ f q = true ∧ (namesF D)[q]? = some s
  | 0 => by
    rw [rchUp]
    exact ⟨fun h => (by cases h), fun ⟨q, h, _⟩ => absurd h (Nat.not_lt_zero _)⟩
  | n + 1 => by
    rw [inN_iff, rchUp, List.mem_append, ← inN_iff, in_rch (n := n)]
    constructor
    · rintro (⟨q, h1, h2, h3⟩ | h)
      · exact ⟨q, by omega, h2, h3⟩
      · split at h
        · next hf =>
          refine ⟨n, by omega, hf, ?_⟩
          cases hn : (namesF D)[n]? with
          | none => rw [hn] at h; cases h
          | some t => rw [hn] at h; rw [List.mem_singleton.1 h]
        · cases h
    · rintro ⟨q, h1, h2, h3⟩
      rcases Nat.lt_or_ge q n with h | h
      · exact .inl ⟨q, h, h2, h3⟩
      · obtain rfl : q = n := by omega
        right
        rw [if_pos h2, h3]
        exact List.mem_singleton.2 rfl
/-- f says what is reached from ls. -/
def RchF (D : DocT) (ls : List ByteArray) (f : Nat → Bool) : Prop := ∀ q, f q = true ↔ RchI (waysF D) (plcN (namesF D) ls) q
theorem RchF.first {D : DocT} {ls : List ByteArray} {f : Nat → Bool} (h : RchF D ls f) {q : Nat} (hq : f q = true) : ∃ s, (namesF D)[q]? = some s ∧ fstIx (namesF D) s = q ∧ inN (namesF D) s = true := rch_first ((h q).1 hq)
theorem RchF.name {D : DocT} {ls : List ByteArray} {f : Nat → Bool} (h : RchF D ls f) {q : Nat} {s : ByteArray} (hs : (namesF D)[q]? = some s) (hf : fstIx (namesF D) s = q) : inN (rchUp D f D.frags.length) s = f q := by
  have hql : q < D.frags.length := by have := (List.getElem?_eq_some_iff.1 hs).1; rwa [names_len] at this
  cases hb : f q with
  | true => exact in_rch.2 ⟨q, hql, hb, hs⟩
  | false =>
    cases hi : inN (rchUp D f D.frags.length) s with
    | false => rfl
    | true =>
      obtain ⟨p, h1, h2, h3⟩ := in_rch.1 hi
      obtain ⟨t, g1, g2, _⟩ := h.first h2
      rw [h3] at g1
      obtain rfl := Option.some.inj g1
      rw [g2] at hf
      subst hf
      rw [hb] at h2
      cases h2
theorem spr_mem_iff {XS : List SelT} {s : ByteArray} : s ∈ sprL XS ↔ ∃ x, x ∈ XS ∧ x.kind = 1 ∧ x.name = s := by
  refine ⟨spr_mem, ?_⟩
  have key : ∀ (XS : List SelT) (out : List ByteArray), (s ∈ out ∨ ∃ x, x ∈ XS ∧ x.kind = 1 ∧ x.name = s) → s ∈ XS.foldl addS out := by
    intro XS
    induction XS with
    | nil =>
      rintro out (h | ⟨x, h, _⟩)
      · exact h
      · cases h
    | cons y t ih =>
      intro out h
      refine ih _ ?_
      rcases h with h | ⟨x, h1, h2, h3⟩
      · left
        unfold addS
        split
        · exact List.mem_append_left _ h
        · exact h
      · rcases List.mem_cons.1 h1 with rfl | h1
        · left
          unfold addS
          cases hi : inN out x.name with
          | true =>
            rw [if_neg (by simp)]
            rw [← h3]
            exact inN_iff.1 hi
          | false =>
            rw [if_pos (by rw [h2]; rfl), ← h3]
            exact List.mem_append_right _ (List.mem_singleton.2 rfl)
        · exact .inr ⟨x, h1, h2, h3⟩
  exact fun h => key XS [] (.inr h)
theorem plc_mem_iff {N l : List ByteArray} {q : Nat} : q ∈ plcN N l ↔ ∃ s, s ∈ l ∧ inN N s = true ∧ fstIx N s = q := by
  unfold plcN
  rw [List.mem_filterMap]
  constructor
  · rintro ⟨s, h1, h2⟩
    split at h2
    · next hb => exact ⟨s, h1, hb, Option.some.inj h2⟩
    · cases h2
  · rintro ⟨s, h1, h2, h3⟩
    exact ⟨s, h1, by rw [if_pos h2, h3]⟩
/-- Two lists together reach what either one reaches. -/
theorem rch_join {D : DocT} {X Y : List SelT} {q : Nat} : RchI (waysF D) (plcN (namesF D) (sprL (X ++ Y))) q ↔ RchI (waysF D) (plcN (namesF D) (sprL X)) q ∨ RchI (waysF D) (plcN (namesF D) (sprL Y)) q := by
  have hm : ∀ p, p ∈ plcN (namesF D) (sprL (X ++ Y)) ↔ p ∈ plcN (namesF D) (sprL X) ++ plcN (namesF D) (sprL Y) := fun p => by
    rw [List.mem_append, plc_mem_iff, plc_mem_iff, plc_mem_iff]
    constructor
    · rintro ⟨s, h1, h2⟩
      obtain ⟨x, h3, h4⟩ := spr_mem_iff.1 h1
      rcases List.mem_append.1 h3 with h3 | h3
      · exact .inl ⟨s, spr_mem_iff.2 ⟨x, h3, h4⟩, h2⟩
      · exact .inr ⟨s, spr_mem_iff.2 ⟨x, h3, h4⟩, h2⟩
    · rintro (⟨s, h1, h2⟩ | ⟨s, h1, h2⟩)
      · obtain ⟨x, h3, h4⟩ := spr_mem_iff.1 h1
        exact ⟨s, spr_mem_iff.2 ⟨x, List.mem_append_left _ h3, h4⟩, h2⟩
      · obtain ⟨x, h3, h4⟩ := spr_mem_iff.1 h1
        exact ⟨s, spr_mem_iff.2 ⟨x, List.mem_append_right _ h3, h4⟩, h2⟩
  constructor
  · intro h
    exact (RchI.sub (fun p hp => .start ((hm p).1 hp)) h).split
  · rintro (h | h)
    · exact RchI.sub (fun p hp => .start ((hm p).2 (List.mem_append_left _ hp))) h
    · exact RchI.sub (fun p hp => .start ((hm p).2 (List.mem_append_right _ hp))) h
theorem join_in {D : DocT} {X Y : List SelT} {fa fb fc : Nat → Bool} (ha : RchF D (sprL X) fa) (hb : RchF D (sprL Y) fb) (hc : RchF D (sprL (X ++ Y)) fc) {s : ByteArray} (hs : s ∈ rchUp D fc D.frags.length) : (inN (rchUp D fa D.frags.length) s || inN (rchUp D fb D.frags.length) s) = true := by
  obtain ⟨q, h1, h2, h3⟩ := in_rch.1 (inN_iff.2 hs)
  rw [Bool.or_eq_true]
  rcases rch_join.1 ((hc q).1 h2) with h | h
  · exact .inl (in_rch.2 ⟨q, h1, (ha q).2 h, h3⟩)
  · exact .inr (in_rch.2 ⟨q, h1, (hb q).2 h, h3⟩)
theorem join_count {D : DocT} {X Y : List SelT} {fa fb fc : Nat → Bool} (ha : RchF D (sprL X) fa) (hb : RchF D (sprL Y) fb) (hc : RchF D (sprL (X ++ Y)) fc) : ∀ q, q ≤ D.frags.length → (rchUp D fc q).length = (rchUp D fa q).length + (rchUp D fb q).countP (fun s => !inN (rchUp D fa D.frags.length) s)
  | 0, _ => rfl
  | q + 1, hq => by
    have ih := join_count ha hb hc q (by omega)
    obtain ⟨s, hs⟩ : ∃ s, (namesF D)[q]? = some s := ⟨_, List.getElem?_eq_getElem (by rw [names_len]; omega)⟩
    rw [rchUp, rchUp, rchUp, List.length_append, List.length_append, List.countP_append, ih, hs]
    cases h1 : fa q with
    | true =>
      have h2 : fc q = true := (hc q).2 (rch_join.2 (.inl ((ha q).1 h1)))
      rw [h2]
      cases h3 : fb q with
      | true =>
        obtain ⟨t, g1, g2, _⟩ := ha.first h1
        rw [hs] at g1
        obtain rfl := Option.some.inj g1
        have hn := ha.name hs g2
        rw [h1] at hn
        simp [hn]
        omega
      | false => simp; omega
    | false =>
      cases h3 : fb q with
      | true =>
        have h2 : fc q = true := (hc q).2 (rch_join.2 (.inr ((hb q).1 h3)))
        rw [h2]
        obtain ⟨t, g1, g2, _⟩ := hb.first h3
        rw [hs] at g1
        obtain rfl := Option.some.inj g1
        have hn := ha.name hs g2
        rw [h1] at hn
        simp [hn]
        omega
      | false =>
        have h2 : fc q = false := by
          cases h4 : fc q with
          | false => rfl
          | true =>
            rcases rch_join.1 ((hc q).1 h4) with h | h
            · rw [(ha q).2 h] at h1; cases h1
            · rw [(hb q).2 h] at h3; cases h3
        rw [h2]
        simp
end Go.Proofs.Ytohkimibphleaaa
