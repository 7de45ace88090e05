/- The walk of the law BlockClean, from the package's contracts. -/
import Derived.Test.YtecigjpolekpdaaBlockOf
namespace Go.Proofs.Ytecigjpolekpdaa
open Go.RowKit

theorem ink_at {l : List UInt8} {k : Nat} {c : UInt8} (hc : l[k]? = some c) (hn : blankB c = false) : inkB l = true := by
  unfold inkB
  rw [List.any_eq_true]
  exact ⟨c, List.mem_of_getElem? hc, by rw [hn]; rfl⟩
theorem ink_none {l : List UInt8} (h : (l.take l.length).all blankB = true) : inkB l = false := by
  rw [List.take_length, List.all_eq_true] at h
  unfold inkB
  rw [List.any_eq_false]
  intro c hc
  rw [h c hc]; decide

set_option maxRecDepth 100000 in
theorem lblank_any (s : ByteArray) (w : World) (hs : s.size ≤ 100000) : Calls Try.prog 18 #[.string s] w fun e w' => e = .returned (.bool (!inkB s.data.toList)) ∧ w = w' := by
  have HL : Hid (s.data.toList.length = s.size) := Lib.hid Array.length_toList
  go_enter Try.func18, Try.ntmps18
  go_wp2_with fail
  go_loopg [3] s.size (fun g i wx => ∃ k : Nat, k + g = s.size ∧ i = .int .i64 k ∧ Aside ((s.data.toList.take k).all blankB = true) ∧ w = wx)
  case atStart => exact ⟨0, by omega, rfl, Aside.intro (by simp), rfl⟩
  case round =>
    obtain ⟨k, hk, rfl, H, rfl⟩ := hrel
    cases gk with
    | zero =>
      obtain rfl : k = s.size := by omega
      have hT : Hid (true = !inkB s.data.toList) := Lib.hid (by
        have h := H.out
        rw [← HL.out] at h
        rw [ink_none h]; rfl)
      clear H
      go_wp2_with fail
      go_ret
      exact ⟨ret_bool hT.out, rfl⟩
    | succ g =>
      have hlt : k < s.size := by omega
      have hlt' : (k : Int) < (s.size : Int) := by omega
      have hk0 : (0 : Int) ≤ (k : Int) := by omega
      cases hc : blankB s[k]
      · have hT : Hid (false = !inkB s.data.toList) := Lib.hid (by
          rw [ink_at (k := k) (c := s[k]) (by rw [List.getElem?_eq_getElem (by rw [HL.out]; omega)]; rfl) hc]; rfl)
        have h9 : s[k] ≠ 9 := fun e => by rw [e] at hc; cases hc
        have h32 : s[k] ≠ 32 := fun e => by rw [e] at hc; cases hc
        have e9 : ((s[k].toNat : Int) != 9) = true := bne_ne (ne_lit (c := 9) h9)
        have e32 : ((s[k].toNat : Int) != 32) = true := bne_ne (ne_lit (c := 32) h32)
        clear hc h9 h32 H
        generalize hcb : s[k] = cb at *
        go_wp2_with fail
        go_ret
        exact ⟨ret_bool hT.out, rfl⟩
      · have hT := Lib.hid (blank_more hlt H.out hc)
        have e : ((s[k].toNat : Int) != 9) = false ∨ (((s[k].toNat : Int) != 9) = true ∧ ((s[k].toNat : Int) != 32) = false) := by
          by_cases h9 : s[k] = 9
          · left; rw [h9]; rfl
          · right
            refine ⟨bne_ne (ne_lit (c := 9) h9), ?_⟩
            by_cases h32 : s[k] = 32
            · rw [h32]; rfl
            · exfalso
              simp [blankB, h9, h32] at hc
        clear hc H
        generalize hcb : s[k] = cb at *
        rcases e with e9 | ⟨e9, e32⟩
        all_goals
          go_wp2_with fail
          go_roundg g
          case measure => omega
          case rel => exact ⟨k + 1, by omega, by go_num, Aside.intro hT.out, rfl⟩

set_option maxRecDepth 100000 in
set_option maxHeartbeats 1000000 in
theorem bclean_walk {I : World → Prop} (B : BlockOf I) (s : ByteArray) (w : World) (hI : I w) :
    Calls Try.prog 6 #[.string s] w fun e w' => e = .returned (.bool true) ∧ Below w.heap.size w w' := by
  have K0 := Lib.hid (KeptI.start hI)
  clear hI
  by_cases hbig : 3000 < s.size
  · go_enter Try.func6, Try.ntmps6
    go_wp2_with fail
    refine (awake_b B K0.out).mono ?_
    rintro e w1 ⟨rfl, K⟩
    go_wp2_with fail
    go_ret
    exact ⟨rfl, K.2⟩
  have hls : s.data.toList.length = s.size := Array.length_toList
  have hvl := value_len s.data.toList
  have HN := Lib.hid (value_no13 s.data.toList)
  have HE := Lib.hid (value_ends s.data.toList)
  go_enter Try.func6, Try.ntmps6
  go_wp2_with fail
  refine (value_k B K0.out s (by omega)).mono ?_
  rintro e w1 ⟨rfl, k1, -⟩
  have K1 := Lib.hid k1
  obtain ⟨V, hV⟩ : ∃ V : ByteArray, V = ⟨(valueL s.data.toList).toArray⟩ := ⟨_, rfl⟩
  have hVd : V.data.toList = valueL s.data.toList := by rw [hV]
  have hVs : V.size ≤ s.size := by
    have : V.size = V.data.toList.length := Array.length_toList.symm
    rw [this, hVd]; omega
  rw [← hV]
  rw [← hVd] at HN HE
  clear k1 K0 hvl hls hV hVd
  go_wp2_with fail
  go_loopg [4] V.size (fun g i wx => ∃ k : Nat, k + g = V.size ∧ i = .int .i64 k ∧ w1 = wx)
  case atStart => exact ⟨0, by omega, rfl, rfl⟩
  case round =>
    obtain ⟨k, hk, rfl, rfl⟩ := hrel
    cases gk with
    | succ g =>
      have hlt : k < V.size := by omega
      have hlt' : (k : Int) < (V.size : Int) := by omega
      have hk0 : (0 : Int) ≤ (k : Int) := by omega
      have hne : V[k] ≠ 13 := HN.out _ (by
        have : V.data.toList.length = V.size := Array.length_toList
        have := List.getElem_mem (l := V.data.toList) (n := k) (by omega)
        exact this)
      have e13 : ((V[k].toNat : Int) == 13) = false := beq_ne (ne_lit (c := 13) hne)
      clear hne
      generalize hcb : V[k] = cb at *
      go_wp2_with fail
      go_roundg g
      case measure => omega
      case rel => exact ⟨k + 1, by omega, by go_num, rfl⟩
    | zero =>
      obtain rfl : k = V.size := by omega
      have hVl : V.data.toList.length = V.size := Array.length_toList
      have hroom := lines_room (V.data.toList.length + 1) V.data.toList (by omega)
      have hX : Hid (∀ x ∈ linesB V.data.toList, x.size ≤ 3000) := Lib.hid (by
        intro x hx
        obtain ⟨l, hl, rfl⟩ := List.mem_map.1 hx
        have := hroom.2.1 l hl
        show l.length ≤ _
        omega)
      have hNl : (linesB V.data.toList).length ≤ 3001 := by unfold linesB; rw [List.length_map]; omega
      have hN1 : 1 ≤ (linesB V.data.toList).length := by
        unfold linesB
        rw [List.length_map]
        have := linesL_ne V.data.toList
        cases h : linesL V.data.toList with
        | nil => exact absurd h this
        | cons _ _ => simp
      have HB : Hid (V.data.toList = [] ∨ ∃ x y : ByteArray, (linesB V.data.toList)[0]? = some x ∧ (linesB V.data.toList)[(linesB V.data.toList).length - 1]? = some y ∧ inkB x.data.toList = true ∧ inkB y.data.toList = true) := Lib.hid (by
        rcases HE.out with h | ⟨x, y, h1, h2, h3, h4⟩
        · exact .inl h
        · refine .inr ⟨⟨x.toArray⟩, ⟨y.toArray⟩, ?_, ?_, by simpa using h3, by simpa using h4⟩
          · unfold linesB; rw [List.getElem?_map, h1]; rfl
          · unfold linesB; rw [List.length_map, List.getElem?_map, ← List.getLast?_eq_getElem?, h2]; rfl)
      clear hroom HE HN hVl
      go_wp2_with fail
      refine (lines_k B K1.out V (by omega)).mono ?_
      rintro e w2 ⟨A, cap, rfl, hS, k2, -⟩
      generalize linesB V.data.toList = xs at *
      have K2 := Lib.hid k2
      have Z2 := Lib.hid hS
      clear hS k2 K1
      generalize hn : xs.length = n at *
      have HNN := Lib.hid hn
      clear hn
      have hn1 : (1 : Int) ≤ (n : Int) := by omega
      have en0 : ((n : Int) == 0) = false := by simp; omega
      rcases HB.out with hE | ⟨x, y, hx, hy, ix, iy⟩
      · have hVe : V = ⟨#[]⟩ := by
          have : V = ⟨V.data.toList.toArray⟩ := by simp
          rw [this, hE]
        subst hVe
        clear HB hE
        go_wp2_with fail
        refine (awake_b B K2.out).mono ?_
        rintro e w3 ⟨rfl, K⟩
        go_wp2_with fail
        go_ret
        exact ⟨rfl, K.2⟩
      · obtain ⟨b, o, rfl, _, hc1⟩ := Z2.out.2 0 x hx
        obtain ⟨b', o', e', _, hc2⟩ := Z2.out.2 (n - 1) y hy
        obtain ⟨rfl, rfl⟩ : b = b' ∧ o = o' := by injection e' with e'; injection e' with e1 e2; exact ⟨e1, e2⟩
        have hb1 := Lib.hid (lblank_any x w2 (by have := hX.out x (List.mem_of_getElem? hx); omega))
        have hb2 := Lib.hid (lblank_any y w2 (by have := hX.out y (List.mem_of_getElem? hy); omega))
        rw [ix] at hb1
        rw [iy] at hb2
        obtain ⟨m, rfl⟩ : ∃ m, n = m + 1 := ⟨n - 1, by omega⟩
        rw [show m + 1 - 1 = m from by omega] at hc2
        rw [Nat.add_zero] at hc1
        have hm0 : (0 : Int) ≤ (m : Int) := by omega
        have hcast : (((m + 1 : Nat) : Int)) = (m : Int) + 1 := by omega
        have en1 : ((m : Int) + 1 == 0) = false := by simp; omega
        clear HB hx hy ix iy e' Z2
        have eV : V.toList.isEmpty = true ∨ V.toList.isEmpty = false := by cases V.toList.isEmpty <;> simp
        rcases eV with eV | eV
        · go_wp2_with fail
          refine (awake_b B K2.out).mono ?_
          rintro e w3 ⟨rfl, K⟩
          go_wp2_with fail
          go_ret
          exact ⟨rfl, K.2⟩
        · go_wp2_with fail
          refine hb1.out.mono ?_
          rintro e w3 ⟨rfl, rfl⟩
          go_wp2_with fail
          refine hb2.out.mono ?_
          rintro e w3 ⟨rfl, rfl⟩
          go_wp2_with fail
          refine (awake_b B K2.out).mono ?_
          rintro e w3 ⟨rfl, K⟩
          go_wp2_with fail
          go_ret
          exact ⟨rfl, K.2⟩
namespace LBClean
theorem walk (B : BlockOf fun _ => True) (w : World) (s : ByteArray) : Calls Try.prog 6 #[.string s] w fun e w' => e = .returned (.bool true) ∧ Below w.heap.size w w' := bclean_walk B s w trivial
end LBClean
end Go.Proofs.Ytecigjpolekpdaa
