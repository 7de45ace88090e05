/- What is reached from what is reached is reached. -/
import Derived.Test.YtohkimibphleaaaGrJoinP
namespace Go.Proofs.Ytohkimibphleaaa
open Go.RowKit

/-- What is spread is reached just if it is there. -/
theorem clos_in {D : DocT} {ls : List ByteArray} {f : Nat → Bool} (hf : RchF D ls f) {s : ByteArray} (hs : s ∈ ls) : inN (rchUp D f D.frags.length) s = inN (namesF D) s := by
  cases hb : inN (namesF D) s with
  | true =>
    have h1 := fst_at hb
    have h2 : f (fstIx (namesF D) s) = true := (hf _).2 (.start (plc_mem_iff.2 ⟨s, hs, hb, rfl⟩))
    rw [hf.name h1 rfl, h2]
  | false =>
    cases hi : inN (rchUp D f D.frags.length) s with
    | false => rfl
    | true =>
      obtain ⟨q, _, _, h3⟩ := in_rch.1 hi
      rw [inN_iff.2 (List.mem_of_getElem? h3)] at hb
      cases hb
/-- What is reached is there. -/
theorem clos_name {D : DocT} {ls : List ByteArray} {f : Nat → Bool} (hf : RchF D ls f) {s : ByteArray} (hs : s ∈ rchUp D f D.frags.length) : inN (namesF D) s = true ∧ f (fstIx (namesF D) s) = true ∧ ∃ x, D.frags[fstIx (namesF D) s]? = some x := by
  obtain ⟨q, h1, h2, h3⟩ := in_rch.1 (inN_iff.2 hs)
  obtain ⟨t, g1, g2, g3⟩ := hf.first h2
  rw [h3] at g1
  obtain rfl := Option.some.inj g1
  rw [g2]
  exact ⟨g3, h2, _, List.getElem?_eq_getElem h1⟩
/-- What is reached from there is reached. -/
theorem clos_sub {D : DocT} {ls : List ByteArray} {f g : Nat → Bool} {q : Nat} {x : FragT} (hf : RchF D ls f) (hq : f q = true) (hx : D.frags[q]? = some x) (hg : RchF D (sprL (gpreL x.sels)) g) {s : ByteArray} (hs : s ∈ rchUp D g D.frags.length) : inN (rchUp D f D.frags.length) s = true := by
  obtain ⟨p, h1, h2, h3⟩ := in_rch.1 (inN_iff.2 hs)
  refine in_rch.2 ⟨p, h1, (hf p).2 (RchI.sub (fun y hy => ?_) ((hg p).1 h2)), h3⟩
  exact RchI.step ((hf q).1 hq) (by unfold waysF; rw [List.getElem?_map, hx]; rfl) hy
theorem name_size {D : DocT} {s : ByteArray} (h : inN (namesF D) s = true) : s.size ≤ szDoc D := by
  obtain ⟨x, hx, e⟩ := List.mem_map.1 (inN_iff.1 h)
  have := frag_sz hx
  have e : x.name = s := e
  rw [← e]
  omega
end Go.Proofs.Ytohkimibphleaaa
