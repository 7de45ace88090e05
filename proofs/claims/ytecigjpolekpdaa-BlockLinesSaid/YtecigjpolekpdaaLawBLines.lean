/- The walk of the law BlockLines, from the package's contracts. -/
import Derived.Test.YtecigjpolekpdaaBlockOf
namespace Go.Proofs.Ytecigjpolekpdaa
open Go.RowKit

/-- From byte i on, the text's lines are xs from line k on. -/
def LinesAt (s : ByteArray) (xs : List ByteArray) (k i : Nat) : Prop := i ≤ s.size ∧ linesL (s.data.toList.drop i) = (bytesL xs).drop k
/-- What stands behind line k, which ends at byte E. -/
def EndAt (s : ByteArray) (xs : List ByteArray) (k E : Nat) : Prop :=
  ∃ h : E < s.size, (s[E] = 10 ∧ LinesAt s xs (k + 1) (E + 1)) ∨ (s[E] = 13 ∧ ((∃ h1 : E + 1 < s.size, s[E + 1] = 10 ∧ LinesAt s xs (k + 1) (E + 2)) ∨ ((∀ h1 : E + 1 < s.size, s[E + 1] ≠ 10) ∧ LinesAt s xs (k + 1) (E + 1))))
theorem eol_cases {c : UInt8} (h : eolB c = true) : c = 10 ∨ c = 13 := by simpa [eolB] using h
theorem LinesAt.round {s x : ByteArray} {xs : List ByteArray} {k i : Nat} (h : LinesAt s xs k i) (hx : xs[k]? = some x) :
    i + x.size ≤ s.size ∧ s.extract i (i + x.size) = x ∧ (∀ (j : Nat) (hj : j < x.size), eolB x[j] = false) ∧ (k + 1 = xs.length → i + x.size = s.size) ∧ (k + 1 < xs.length → EndAt s xs k (i + x.size)) := by
  obtain ⟨hi, hl⟩ := h
  have hsl : s.data.toList.length = s.size := Array.length_toList
  have hxl : x.data.toList.length = x.size := Array.length_toList
  have hk : k < xs.length := (List.getElem?_eq_some_iff.1 hx).1
  have hd : (bytesL xs).drop k = x.data.toList :: (bytesL xs).drop (k + 1) := by
    have hk' : k < (bytesL xs).length := by unfold bytesL; rw [List.length_map]; exact hk
    rw [List.drop_eq_getElem_cons hk']
    congr 1
    have : (bytesL xs)[k]? = some x.data.toList := by unfold bytesL; rw [List.getElem?_map, hx]; rfl
    rw [List.getElem?_eq_getElem hk'] at this
    exact Option.some.inj this
  rw [hd, linesL_eq] at hl
  obtain ⟨h1, h2⟩ := List.cons.inj hl
  have hsplit := List.takeWhile_append_dropWhile (p := fun c => !eolB c) (l := s.data.toList.drop i)
  have h1' : (s.data.toList.drop i).takeWhile (fun c => !eolB c) = x.data.toList := h1
  have hpl := takeWhile_all (s.data.toList.drop i)
  rw [h1'] at hsplit hpl
  have hr : (s.data.toList.drop i).dropWhile (fun c => !eolB c) = s.data.toList.drop (i + x.size) := by
    rw [← List.drop_drop, ← hsplit, ← hxl, List.drop_left, hsplit]
  have hlen := congrArg List.length hsplit
  rw [List.length_append, List.length_drop, hsl, hxl] at hlen
  have hE : i + x.size ≤ s.size := by omega
  refine ⟨hE, ?_, ?_, ?_, ?_⟩
  · apply ByteArray.ext
    apply Array.toList_inj.1
    rw [extract_list, show i + x.size - i = x.size from by omega, ← hsplit, ← hxl, List.take_left]
  · intro j hj
    exact hpl _ (List.getElem_mem (l := x.data.toList) (n := j) (by omega))
  · intro he
    have hnil : (bytesL xs).drop (k + 1) = [] := List.drop_eq_nil_of_le (by unfold bytesL; rw [List.length_map]; omega)
    rw [hnil] at h2
    cases ha : afterL (s.data.toList.drop i) with
    | some t => rw [ha] at h2; exact absurd h2 (linesL_ne t)
    | none =>
      unfold afterL at ha
      rw [hr] at ha
      cases hdr : s.data.toList.drop (i + x.size) with
      | nil =>
        have := congrArg List.length hdr
        rw [List.length_drop, hsl, List.length_nil] at this
        omega
      | cons c t =>
        rw [hdr] at ha
        dsimp only at ha
        split at ha
        · split at ha
          · split at ha <;> cases ha
          · cases ha
        · cases ha
  · intro he
    have hne : (bytesL xs).drop (k + 1) ≠ [] := by
      intro e
      have := congrArg List.length e
      unfold bytesL at this
      rw [List.length_drop, List.length_map, List.length_nil] at this
      omega
    obtain ⟨v, hv⟩ : ∃ v, afterL (s.data.toList.drop i) = v := ⟨_, rfl⟩
    have ha := hv
    unfold afterL at ha
    rw [hr] at ha
    by_cases hlt : i + x.size < s.size
    · have hcons : s.data.toList.drop (i + x.size) = s[i + x.size] :: s.data.toList.drop (i + x.size + 1) := List.drop_eq_getElem_cons (by omega)
      have heol : eolB s[i + x.size] = true := by
        rw [hcons] at hr
        have := dropWhile_head hr
        simpa using this
      refine ⟨hlt, ?_⟩
      rw [hcons] at ha
      dsimp only at ha
      rcases eol_cases heol with c10 | c13
      · left
        rw [if_neg (by rw [c10]; decide)] at ha
        rw [hv, ← ha] at h2
        exact ⟨c10, by omega, h2⟩
      · right
        refine ⟨c13, ?_⟩
        rw [if_pos c13] at ha
        by_cases h1 : i + x.size + 1 < s.size
        · have hcons2 : s.data.toList.drop (i + x.size + 1) = s[i + x.size + 1] :: s.data.toList.drop (i + x.size + 2) := List.drop_eq_getElem_cons (by omega)
          rw [hcons2] at ha
          dsimp only at ha
          by_cases d10 : s[i + x.size + 1] = 10
          · left
            rw [if_pos d10] at ha
            rw [hv, ← ha] at h2
            exact ⟨h1, d10, by omega, h2⟩
          · right
            rw [if_neg d10] at ha
            rw [hv, ← ha] at h2
            dsimp only at h2
            rw [← hcons2] at h2
            exact ⟨fun _ => d10, by omega, h2⟩
        · right
          have hnil : s.data.toList.drop (i + x.size + 1) = [] := List.drop_eq_nil_of_le (by omega)
          rw [hnil] at ha
          dsimp only at ha
          rw [hv, ← ha] at h2
          dsimp only at h2
          rw [← hnil] at h2
          exact ⟨fun h => absurd h h1, by omega, h2⟩
    · exfalso
      have hnil : s.data.toList.drop (i + x.size) = [] := List.drop_eq_nil_of_le (by omega)
      rw [hnil] at ha
      dsimp only at ha
      rw [hv, ← ha] at h2
      exact hne h2.symm

set_option maxRecDepth 100000 in
set_option maxHeartbeats 2000000 in
theorem blines_walk {I : World → Prop} (B : BlockOf I) (s : ByteArray) (w : World) (hI : I w) :
    Calls Try.prog 5 #[.string s] w fun e w' => e = .returned (.bool true) ∧ Below w.heap.size w w' := by
  have K0 := Lib.hid (KeptI.start hI)
  clear hI
  by_cases hbig : 3000 < s.size
  · go_enter Try.func5, Try.ntmps5
    go_wp2_with fail
    refine (awake_b B K0.out).mono ?_
    rintro e w1 ⟨rfl, K⟩
    go_wp2_with fail
    go_ret
    exact ⟨rfl, K.2⟩
  have hroom := Lib.hid (lines_room (s.data.toList.length + 1) s.data.toList (by omega))
  have hsl : Hid (s.data.toList.length = s.size) := Lib.hid Array.length_toList
  have hL0 : Hid (LinesAt s (linesB s.data.toList) 0 0) := Lib.hid ⟨Nat.zero_le _, by rw [linesB_bytes]; rfl⟩
  have hN : (linesB s.data.toList).length ≤ 3001 := by
    have := hroom.out.1
    have h2 := hsl.out
    unfold linesB; rw [List.length_map]; omega
  have hN1 : 1 ≤ (linesB s.data.toList).length := by
    unfold linesB
    rw [List.length_map]
    have := linesL_ne s.data.toList
    cases h : linesL s.data.toList with
    | nil => exact absurd h this
    | cons _ _ => simp
  clear hroom hsl
  go_enter Try.func5, Try.ntmps5
  go_wp2_with fail
  refine (lines_k B K0.out s (by omega)).mono ?_
  rintro e w1 ⟨A, cap, rfl, hS1, k1, -⟩
  have HS1 := Lib.hid hS1
  have HK1 := Lib.hid k1
  clear hS1 k1 K0
  generalize linesB s.data.toList = xs at *
  generalize hn : xs.length = n at *
  have HNN := Lib.hid hn
  clear hn
  go_wp2_with fail
  go_loopg [4, 5] n (fun g iv kv wx => ∃ (k i : Nat), k + g = n ∧ k < n ∧ kv = .int .i64 k ∧ iv = .int .i64 i ∧ i ≤ s.size ∧ Aside (LinesAt s xs k i) ∧ ∃ m, w1.drewN m = wx)
  case atStart => exact ⟨0, 0, by omega, by omega, rfl, rfl, by omega, Aside.intro hL0.out, 0, rfl⟩
  case round =>
    obtain ⟨k, i, hk, hkn, rfl, rfl, his, H, m, rfl⟩ := hrel
    have hkn' : (k : Int) < (n : Int) := by omega
    have hk0 : (0 : Int) ≤ (k : Int) := by omega
    have hi0 : (0 : Int) ≤ (i : Int) := by omega
    obtain ⟨x, hx⟩ : ∃ x, xs[k]? = some x := ⟨_, List.getElem?_eq_getElem (by rw [HNN.out]; omega)⟩
    obtain ⟨p, o, rfl, _, hcell⟩ := HS1.out.2 k x hx
    obtain ⟨f1, f2, f3, f4, f5⟩ := H.out.round hx
    rw [HNN.out] at f4 f5
    have F2 := Lib.hid f2
    have F3 := Lib.hid f3
    have F4 := Lib.hid f4
    have F5 := Lib.hid f5
    clear f2 f3 f4 f5 H hx
    go_wp2_with fail
    go_loopg [6] x.size (fun g jv wx => ∃ j : Nat, j + g = x.size ∧ jv = .int .i64 j ∧ w1.drewN m = wx)
    case atStart => exact ⟨0, by omega, rfl, rfl⟩
    case round =>
      obtain ⟨j, hj, rfl, rfl⟩ := hrel
      cases gk with
      | succ g =>
        have hjl : j < x.size := by omega
        have hjl' : (j : Int) < (x.size : Int) := by omega
        have hj0 : (0 : Int) ≤ (j : Int) := by omega
        have hne := F3.out j hjl
        have n10 : x[j] ≠ 10 := fun e => by rw [e] at hne; cases hne
        have n13 : x[j] ≠ 13 := fun e => by rw [e] at hne; cases hne
        have e10 : ((x[j].toNat : Int) == 10) = false := beq_ne (ne_lit (c := 10) n10)
        have e13 : ((x[j].toNat : Int) == 13) = false := beq_ne (ne_lit (c := 13) n13)
        clear hne n10 n13
        generalize hcb : x[j] = cb at *
        go_wp2_with fail
        go_roundg g
        case measure => omega
        case rel => exact ⟨j + 1, by omega, by go_num, rfl⟩
      | zero =>
        obtain rfl : j = x.size := by omega
        obtain ⟨E, hE⟩ : ∃ E, i + x.size = E := ⟨_, rfl⟩
        have eE : (i : Int) + (x.size : Int) = (E : Int) := by omega
        rw [hE] at F2 F4 F5 f1
        have fx := F2.out
        have hiE : (i : Int) ≤ (E : Int) := by omega
        have hEs : (E : Int) ≤ (s.size : Int) := by omega
        have hE0 : (0 : Int) ≤ (E : Int) := by omega
        have d1 : decide ((s.size : Int) - (i : Int) < (x.size : Int)) = false := by simp; omega
        have ne : (x.toList != x.toList) = false := by simp
        by_cases hlast : k + 1 = n
        · have hEq := F4.out hlast
          have ek : ((k : Int) == (n : Int) - 1) = true := by simp; omega
          have ee : ((E : Int) == (s.size : Int)) = true := by simp; omega
          have en : decide (0 < (n : Int)) = true := by simp; omega
          clear F4 F5 hE F3 hlast hEq
          go_wp2_with fail
          go_quiet (fail)
          go_wp2_with fail
          refine (awake_b B (HK1.out.next B (below_draws (Below.refl _ _) _))).mono ?_
          rintro e w1 ⟨rfl, K⟩
          go_wp2_with fail
          go_ret
          exact ⟨rfl, K.2⟩
        · obtain ⟨hlt, hF⟩ := F5.out (by omega)
          have hlt' : (E : Int) < (s.size : Int) := by omega
          have ek : ((k : Int) == (n : Int) - 1) = false := by simp; omega
          have eg : decide ((s.size : Int) ≤ (E : Int)) = false := by simp; omega
          clear F4 F5 F3
          rcases hF with ⟨c10, hL⟩ | ⟨c13, ⟨h1, d10, hL⟩ | ⟨hd, hL⟩⟩
          · have n10 : ((s[E].toNat : Int) != 10) = false := by rw [c10]; rfl
            have n13 : ((s[E].toNat : Int) == 13) = false := by rw [c10]; rfl
            have HL := Lib.hid hL
            clear c10 hL
            generalize hcb : s[E] = cb at *
            go_wp2_with fail
            go_quiet (fail)
            go_wp2_with fail
            go_roundg (n - (k + 1))
            case measure => omega
            case rel => exact ⟨k + 1, E + 1, by omega, by omega, by go_num, by go_num, by omega, Aside.intro HL.out, _, rfl⟩
          · have n10 : ((s[E].toNat : Int) != 10) = true := by rw [c13]; rfl
            have n13 : ((s[E].toNat : Int) != 13) = false := by rw [c13]; rfl
            have m13 : ((s[E].toNat : Int) == 13) = true := by rw [c13]; rfl
            have m10 : ((s[E + 1].toNat : Int) == 10) = true := by rw [d10]; rfl
            have h1' : (E : Int) + 1 < (s.size : Int) := by omega
            have HL := Lib.hid hL
            clear c13 hL d10
            go_wp2_with fail
            go_quiet (fail)
            go_wp2_with fail
            go_roundg (n - (k + 1))
            case measure => omega
            case rel => exact ⟨k + 1, E + 2, by omega, by omega, by go_num, by go_num, by omega, Aside.intro HL.out, _, rfl⟩
          · have n10 : ((s[E].toNat : Int) != 10) = true := by rw [c13]; rfl
            have n13 : ((s[E].toNat : Int) != 13) = false := by rw [c13]; rfl
            have m13 : ((s[E].toNat : Int) == 13) = true := by rw [c13]; rfl
            have HL := Lib.hid hL
            clear c13 hL
            by_cases h1 : E + 1 < s.size
            · have h1' : (E : Int) + 1 < (s.size : Int) := by omega
              have m10 : ((s[E + 1].toNat : Int) == 10) = false := beq_ne (ne_lit (c := 10) (hd h1))
              clear hd
              go_wp2_with fail
              go_quiet (fail)
              go_wp2_with fail
              go_roundg (n - (k + 1))
              case measure => omega
              case rel => exact ⟨k + 1, E + 1, by omega, by omega, by go_num, by go_num, by omega, Aside.intro HL.out, _, rfl⟩
            · have h1' : ¬ ((E : Int) + 1 < (s.size : Int)) := by omega
              clear hd
              go_wp2_with fail
              go_quiet (fail)
              go_wp2_with fail
              go_roundg (n - (k + 1))
              case measure => omega
              case rel => exact ⟨k + 1, E + 1, by omega, by omega, by go_num, by go_num, by omega, Aside.intro HL.out, _, rfl⟩
namespace LBLines
theorem walk (B : BlockOf fun _ => True) (w : World) (s : ByteArray) : Calls Try.prog 5 #[.string s] w fun e w' => e = .returned (.bool true) ∧ Below w.heap.size w w' := blines_walk B s w trivial
end LBLines
end Go.Proofs.Ytecigjpolekpdaa
