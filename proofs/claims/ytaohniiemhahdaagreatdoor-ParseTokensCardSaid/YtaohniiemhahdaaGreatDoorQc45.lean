/- The tokens that are read, as they lie in memory, printed again. -/
import Derived.Test.YtaohniiemhahdaaGreatDoorQc39
import Derived.Test.YtaohniiemhahdaaGreatDoorQc44
namespace Go.Proofs.YtaohniiemhahdaaGreatDoor
open Go.RowKit

theorem bare_tok (ts : List (Int × List UInt8)) : bareT (tokB ts) = ts := by
  unfold bareT tokB
  rw [List.map_map]
  conv => rhs; rw [← List.map_id ts]
  congr 1
theorem tok_len {l : List UInt8} {t : (Int × List UInt8) × Nat} (h : tokL l = some t) : t.1.2.length ≤ t.2 := by
  unfold tokL at h
  split at h
  · have h := Option.some.inj h; subst h; simp only [List.length_take]; omega
  · split at h
    · have h := Option.some.inj h; subst h; simp only [List.length_take]; omega
    · split at h
      · have h := Option.some.inj h; subst h; simp only [List.length_take]; omega
      · cases hq : quoteL l with
        | none => rw [hq] at h; cases h
        | some q =>
          rw [hq] at h
          have h := Option.some.inj h
          subst h
          rcases quote_cases hq with ⟨z, r, rfl, hr, rfl⟩ | ⟨t, r, rfl, hr, rfl⟩
          · have h1 := rawF_le _ _ r hr
            have h2 := Blk.value_len r.1
            show (Blk.valueL r.1).length ≤ 3 + r.2
            omega
          · have h1 := line_len _ _ r hr
            show r.1.length ≤ 1 + r.2
            omega
theorem readF_sum : ∀ (n : Nat) (l : List UInt8) ts, readF n l = some ts → sumT (tokB ts) ≤ 2 * l.length
  | 0, _, _, h => by cases h
  | n + 1, l, ts, h => by
    rw [readF] at h
    split at h
    · have := readF_sum n _ ts h
      rw [List.length_drop] at this
      omega
    · split at h
      · cases h; exact Nat.zero_le _
      · cases hk : tokL l with
        | none => rw [hk] at h; cases h
        | some p =>
          rw [hk] at h
          have h1 := tok_len hk
          have h2 := tokL_le hk
          cases hr : readF n (l.drop p.2) with
          | none => simp only [hr] at h; cases h
          | some us =>
            simp only [hr] at h
            have h := Option.some.inj h
            subst h
            have h3 := readF_sum n _ us hr
            rw [List.length_drop] at h3
            show 1 + (⟨p.1.2.toArray⟩ : ByteArray).size + sumT (tokB us) ≤ _
            rw [size_mk]
            omega
theorem readS_sum (l : List UInt8) : sumT (tokB (readS l).1) ≤ 2 * l.length := by
  unfold readS
  split
  · exact Nat.zero_le _
  · split
    · exact Nat.zero_le _
    · cases h : readL l with
      | none => exact Nat.zero_le _
      | some ts => exact readF_sum _ _ ts h
theorem sumT_front : ∀ (ts : List (Int × ByteArray)) (k : Nat), sumT (ts.take k) ≤ sumT ts
  | [], _ => by simp
  | t :: ts, 0 => by simp [sumT]
  | t :: ts, k + 1 => by
    have := sumT_front ts k
    simp only [List.take_succ_cons, sumT]; omega
/-- The row of tokens that token.Read has made. -/
theorem ts_row {w : World} {base : Nat} {A : Option Addr} {cap : Nat} {ts : List (Int × List UInt8)} (h : w.ownsRow base 91 2 (.slice A ts.length cap) ts.length (tokVals ts)) : TsAt w w.heap.size A ts.length (tokB ts) ∧ ts.length ≤ cap := by
  have hlt := h.lt
  refine ⟨⟨tokB_len ts, fun j t ht => ?_⟩, ?_⟩
  · obtain ⟨h0, h1⟩ := ptokVals_at ts j t ht
    have hj : j < ts.length := by have := (List.getElem?_eq_some_iff.1 ht).1; rwa [tokB_len] at this
    rcases h.2 with ⟨e, hn⟩ | ⟨g, c, cur, e, _, _, _, _⟩
    · omega
    · injection e with e1 _ _
      subst e1
      have hgl := (hlt g rfl).2
      refine ⟨g, 0, rfl, hgl, ?_, ?_⟩
      · rw [Nat.zero_add, h.cellAt _ (by omega)]; exact h0
      · rw [Nat.zero_add, h.cellAt _ (by omega)]; exact h1
  · rcases h.2 with ⟨e, h0⟩ | ⟨g, c, cur, e, _, _, hc, _⟩
    · omega
    · injection e with _ _ e; omega
theorem TsAt.front {w : World} {B : Nat} {A : Option Addr} {n : Nat} {ts : List (Int × ByteArray)} (h : TsAt w B A n ts) {k : Nat} (hk : k ≤ n) : TsAt w B A k (ts.take k) := by
  refine ⟨by rw [List.length_take, h.1]; omega, fun j t ht => ?_⟩
  rw [List.getElem?_take] at ht
  split at ht
  · exact h.2 j t ht
  · cases ht
theorem take_tok (ts : List (Int × List UInt8)) (k : Nat) : (tokB ts).take k = tokB (ts.take k) := by unfold tokB; rw [List.map_take]
theorem all_take {ts : List (Int × List UInt8)} (h : ts.all rightB = true) (k : Nat) : (ts.take k).all rightB = true :=
  List.all_eq_true.2 fun t ht => List.all_eq_true.1 h t (List.mem_of_mem_take ht)
/-- The first k tokens are printed. -/
theorem print_front {s : ByteArray} (hs : s.size ≤ 3000) {A : Option Addr} {c k : Nat} {w : World} (h : TsAt w w.heap.size A (readS s.data.toList).1.length (tokB (readS s.data.toList).1)) (hk : k ≤ (readS s.data.toList).1.length) (h3 : Laid3 w) :
    Calls Tryz.prog 21 #[.slice A k c] w fun e w' => e = .returned (.tuple #[.string ⟨(printL ((readS s.data.toList).1.take k)).toArray⟩, .bool true]) ∧ Below w.heap.size w w' := by
  obtain ⟨hr, hlen⟩ := readS_right s.data.toList
  have hl : s.data.toList.length = s.size := Array.length_toList
  have hsum := readS_sum s.data.toList
  have hst := sumT_front (tokB (readS s.data.toList).1) k
  have hp := print_gen A k c _ w (h.front hk) (by omega) (fun t ht => by
    have ht := List.mem_of_mem_take ht
    unfold tokB at ht
    obtain ⟨u, hu, rfl⟩ := List.mem_map.1 ht
    have := hlen u hu
    show (⟨u.2.toArray⟩ : ByteArray).size ≤ 3000
    rw [size_mk]; omega) h3
  rw [take_tok, bare_tok, all_take hr, printS_yes (all_take hr k)] at hp
  exact hp
theorem print_size {s : ByteArray} (hs : s.size ≤ 3000) (k : Nat) : (⟨(printL ((readS s.data.toList).1.take k)).toArray⟩ : ByteArray).size ≤ 100000 := by
  have hl : s.data.toList.length = s.size := Array.length_toList
  have hsum := readS_sum s.data.toList
  have hst := sumT_front (tokB (readS s.data.toList).1) k
  have := printL_len ((tokB (readS s.data.toList).1).take k)
  rw [take_tok, bare_tok] at this
  rw [take_tok] at hst
  rw [size_mk]; omega
/-- What is printed reads as it was. -/
theorem front_read {s : ByteArray} (k : Nat) (hb : (⟨(printL ((readS s.data.toList).1.take k)).toArray⟩ : ByteArray).size ≤ 8192) : readS (⟨(printL ((readS s.data.toList).1.take k)).toArray⟩ : ByteArray).data.toList = ((readS s.data.toList).1.take k, 0) := by
  have hr := (readS_right s.data.toList).1
  have h := print_readS (all_take hr k)
  rw [size_mk] at hb
  rw [if_neg (by omega)] at h
  simpa using h
end Go.Proofs.YtaohniiemhahdaaGreatDoor
