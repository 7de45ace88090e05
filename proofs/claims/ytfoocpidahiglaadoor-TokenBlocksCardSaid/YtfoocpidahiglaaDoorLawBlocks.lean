/- The walk of the law TokenBlocks. -/
import Derived.Test.YtfoocpidahiglaaDoorLawUnits
import Derived.Deep.RegionHeld3
namespace Go.Proofs.YtfoocpidahiglaaDoor
open Go.RowKit

def plainQ (l : List UInt8) : Prop := ∀ b ∈ l, (b == 34) = false ∧ (b == 92) = false
theorem raw_plain : ∀ {l : List UInt8}, plainQ l → rawL (l ++ [92, 34, 34, 34, 120, 34, 34, 34]) = some (l ++ [34, 34, 34, 120], l.length + 8) := by
  intro l
  induction l with
  | nil => intro _; decide +kernel
  | cons b t ih =>
    intro h
    obtain ⟨h1, h2⟩ := h b (by simp)
    have h34 : b ≠ 34 := by simpa using h1
    have h92 : b ≠ 92 := by simpa using h2
    rw [List.cons_append, rawL_cons, pre_ne h34, pre_ne h92, ih (fun x hx => h x (by simp [hx]))]
    simp
    omega
theorem blocks_read {l : List UInt8} (h : plainQ l) (hs : sourceB l = true) (hl : l.length ≤ 3000) : readS ([34, 34, 34] ++ l ++ [92, 34, 34, 34, 120, 34, 34, 34]) = ([(5, Blk.valueL (l ++ [34, 34, 34, 120]))], 0) := by
  have e : [34, 34, 34] ++ l ++ [92, 34, 34, 34, 120, 34, 34, 34] = 34 :: (34 :: 34 :: (l ++ [92, 34, 34, 34, 120, 34, 34, 34])) := by simp
  rw [e]
  have hlen : (34 :: 34 :: 34 :: (l ++ [92, 34, 34, 34, 120, 34, 34, 34])).length = l.length + 11 := by simp
  refine readS_some (by rw [hlen]; omega) ?_ ?_
  · rw [← e, List.append_assoc, source_append (a := [34, 34, 34]) (by decide +kernel), source_append hs]
    decide +kernel
  · obtain ⟨g, t⟩ := tok_quote (34 :: 34 :: (l ++ [92, 34, 34, 34, 120, 34, 34, 34]))
    have hq : quoteL (34 :: 34 :: 34 :: (l ++ [92, 34, 34, 34, 120, 34, 34, 34])) = some (Blk.valueL (l ++ [34, 34, 34, 120]), 3 + (l.length + 8)) := by
      simp only [quoteL, show pre [34, 34, 34] (34 :: 34 :: 34 :: (l ++ [92, 34, 34, 34, 120, 34, 34, 34])) = true by rfl, if_true]
      show (rawL (l ++ [92, 34, 34, 34, 120, 34, 34, 34])).map _ = _
      rw [raw_plain h]
      rfl
    rw [hq] at t
    rw [readL_tok g (by simp) t]
    have hd : (34 :: 34 :: 34 :: (l ++ [92, 34, 34, 34, 120, 34, 34, 34])).drop (3 + (l.length + 8)) = [] := List.drop_eq_nil_of_le (by rw [hlen]; omega)
    simp only
    rw [hd, readL_nil]
    rfl
theorem plainQ_next {s : ByteArray} {k : Nat} (h : plainQ (s.data.toList.take k)) (hk : k < s.size) (a : (s[k] == 34) = false) (b : (s[k] == 92) = false) : plainQ (s.data.toList.take (k + 1)) := by
  intro x hx
  rw [List.take_add_one] at hx
  rcases List.mem_append.1 hx with hx | hx
  · exact h x hx
  · have hg : s.data.toList[k]? = some s[k] := Lib.data_getElem? s k hk
    rw [hg] at hx
    simp at hx
    subst hx
    exact ⟨a, b⟩
theorem source_k3 {w wx : World} (K : K3 w wx) (s : ByteArray) (hs : s.size ≤ 9000) : Calls Tryd.prog 11 #[.string s] wx fun e w' => e = .returned (.bool (sourceB s.data.toList)) ∧ K3 w w' :=
  (source_any s wx hs K.1.1).mono fun _ _ ⟨he, hb⟩ => ⟨he, K.next hb⟩
theorem held_next {w W W' : World} {g : Nat} {k : Int} {V : ByteArray} (hb : Below W.heap.size W W') (h : W.cell? ⟨g, 0, none⟩ = some (.int .i64 k) ∧ W.cell? ⟨g, 1, none⟩ = some (.string V) ∧ K3 w W) : W'.cell? ⟨g, 0, none⟩ = some (.int .i64 k) ∧ W'.cell? ⟨g, 1, none⟩ = some (.string V) ∧ K3 w W' :=
  ⟨(hb.cell (p := ⟨g, 0, none⟩) (lt_of_cell h.1)).trans h.1, (hb.cell (p := ⟨g, 1, none⟩) (lt_of_cell h.1)).trans h.2.1, h.2.2.next hb⟩
theorem awake_b3 {w W : World} (K : K3 w W) : Calls Tryd.prog 7 #[] W fun e w' => e = .returned (.bool true) ∧ Below W.heap.size W w' :=
  (awake_t (K3.start K.1)).mono fun _ _ ⟨he, hb⟩ => ⟨he, hb.2⟩
namespace LBlocks

set_option maxRecDepth 100000 in
set_option maxHeartbeats 4000000 in
theorem walk (s : ByteArray) (w : World) (h3 : Laid3 w) : Calls Tryd.prog 6 #[.string s] w fun e w' => e = .returned (.bool true) ∧ Below w.heap.size w w' := by
  have K0 := K3.start h3
  by_cases hbig : 3000 < s.size
  · have hbig' : (3000 : Int) < (s.size : Int) := by omega
    have HA := Lib.hid (awake_t K0)
    clear K0 h3
    go_enter Tryd.func6, Tryd.ntmps6
    go_wp2_with fail
    refine HA.out.mono ?_
    rintro e w1 ⟨rfl, K⟩
    have HK := Lib.hid K
    clear K
    go_wp2_with fail
    go_ret
    exact ⟨rfl, HK.out.2⟩
  have hbig' : ¬ (3000 : Int) < (s.size : Int) := by omega
  have hl := len_data s
  have hS := source_k3 K0 s (by omega)
  cases hsrc : sourceB s.data.toList
  · rw [hsrc] at hS
    have HS := Lib.hid hS
    clear K0 h3 hS hsrc hl
    go_enter Tryd.func6, Tryd.ntmps6
    go_wp2_with fail
    refine HS.out.mono ?_
    rintro e w1 ⟨rfl, K1⟩
    have HA := Lib.hid (awake_t K1)
    clear K1
    go_wp2_with fail
    refine HA.out.mono ?_
    rintro e w2 ⟨rfl, K⟩
    have HK := Lib.hid K
    clear K
    go_wp2_with fail
    go_ret
    exact ⟨rfl, HK.out.2⟩
  rw [hsrc] at hS
  have HS := Lib.hid hS
  have HSR := Lib.hid hsrc
  have HLEN := Lib.hid hl
  clear K0 h3 hS hsrc hl
  go_enter Tryd.func6, Tryd.ntmps6
  go_wp2_with fail
  refine HS.out.mono ?_
  rintro e w1 ⟨rfl, K1⟩
  have HK1 := Lib.hid K1
  clear K1
  go_wp2_with fail
  go_loopg [3] s.size (fun g i wx => ∃ k : Nat, k + g = s.size ∧ i = .int .i64 k ∧ w1 = wx ∧ Aside (plainQ (s.data.toList.take k)))
  case atStart => exact ⟨0, by omega, rfl, rfl, Aside.intro (by intro b hb; simp at hb)⟩
  case round =>
    obtain ⟨k, hk, rfl, rfl, HP⟩ := hrel
    by_cases hlt : k < s.size
    · have hlt' : (k : Int) < (s.size : Int) := by omega
      cases c34 : (s[k] == 34)
      · obtain ⟨a1, a2⟩ := beqF c34 34 rfl
        cases c92 : (s[k] == 92)
        · obtain ⟨b1, b2⟩ := beqF c92 92 rfl
          have HP2 := Lib.hid (plainQ_next HP.out hlt c34 c92)
          clear HP c34 c92
          go_wp2_with fail
          go_roundg (gk - 1)
          case measure => omega
          case rel => exact ⟨k + 1, by omega, by go_num, rfl, Aside.intro HP2.out⟩
        · obtain ⟨b1, b2⟩ := beqT c92 92 rfl
          have HA := Lib.hid (awake_t HK1.out)
          clear HP c34 c92
          go_wp2_with fail
          refine HA.out.mono ?_
          rintro e w2 ⟨rfl, K⟩
          have HK := Lib.hid K
          clear K
          go_wp2_with fail
          go_ret
          exact ⟨rfl, HK.out.2⟩
      · obtain ⟨a1, a2⟩ := beqT c34 34 rfl
        have HA := Lib.hid (awake_t HK1.out)
        clear HP c34
        go_wp2_with fail
        refine HA.out.mono ?_
        rintro e w2 ⟨rfl, K⟩
        have HK := Lib.hid K
        clear K
        go_wp2_with fail
        go_ret
        exact ⟨rfl, HK.out.2⟩
    · obtain rfl : k = s.size := by omega
      have hlt' : ¬ (s.size : Int) < (s.size : Int) := by omega
      have hpl : plainQ s.data.toList := by have := HP.out; rwa [List.take_of_length_le (by rw [HLEN.out]; omega)] at this
      have hts : (3 : Int) + (s.size : Int) = ((s.size + 3 : Nat) : Int) := by omega
      have hts2 : ((s.size + 3 : Nat) : Int) + 8 = ((s.size + 11 : Nat) : Int) := by omega
      have hts3 : (s.size : Int) + 4 = ((s.size + 4 : Nat) : Int) := by omega
      have hX : ((⟨#[34, 34, 34]⟩ ++ s) ++ ⟨#[92, 34, 34, 34, 120, 34, 34, 34]⟩ : ByteArray).data.toList = [34, 34, 34] ++ s.data.toList ++ [92, 34, 34, 34, 120, 34, 34, 34] := by rw [cat_two, cat_two]
      have hXs : ((⟨#[34, 34, 34]⟩ ++ s) ++ ⟨#[92, 34, 34, 34, 120, 34, 34, 34]⟩ : ByteArray).size ≤ 9000 := by rw [ByteArray.size_append, ByteArray.size_append]; show 3 + s.size + 8 ≤ _; omega
      have hrs := blocks_read hpl HSR.out (by rw [HLEN.out]; omega)
      rw [← hX] at hrs
      have H1 := Lib.hid (read_k HK1.out _ hXs _ 0 hrs)
      have hY : (s ++ ⟨#[34, 34, 34, 120]⟩ : ByteArray).data.toList = s.data.toList ++ [34, 34, 34, 120] := cat_two _ _
      have hYs : (s ++ ⟨#[34, 34, 34, 120]⟩ : ByteArray).size ≤ 13000 := by rw [ByteArray.size_append]; show s.size + 4 ≤ _; omega
      have HY := Lib.hid hY
      have HYs := Lib.hid hYs
      clear HP hX hXs hrs hpl hY hYs HS
      go_wp2_with fail
      refine H1.out.mono ?_
      rintro e w2 ⟨A, cap, rfl, hA, K2, _⟩
      obtain ⟨g, rfl, hg, c0, c1⟩ := hA.one
      rw [← HY.out] at c1
      have hcap : 1 ≤ cap := hA.2
      have HK2 := Lib.hid K2
      clear hA K2
      generalize hV : (⟨(Blk.valueL (s ++ ⟨#[34, 34, 34, 120]⟩ : ByteArray).data.toList).toArray⟩ : ByteArray) = V at *
      have HPV : ∀ W, Calls Tryd.prog 12 #[.string (s ++ ⟨#[34, 34, 34, 120]⟩)] W fun e w' => e = .returned (.string V) ∧ Below W.heap.size W w' := fun W => by
        have h := Blk.pvalue (s ++ ⟨#[34, 34, 34, 120]⟩) W HYs.out
        rwa [hV] at h
      clear hV
      have k2 := HK2.out
      have hs4 : ¬ 9223372036854775807 < s.size + 4 := by omega
      have hS0 : w2.cell? ⟨g, 0, none⟩ = some (.int .i64 5) ∧ w2.cell? ⟨g, 1, none⟩ = some (.string V) ∧ K3 w w2 := ⟨c0, c1, k2⟩
      go_wp2_with fail
      go_region_held3 (fun w' => w'.cell? ⟨g, 0, none⟩ = some (.int .i64 5) ∧ w'.cell? ⟨g, 1, none⟩ = some (.string V) ∧ K3 w w')
        (first
          | exact held_next (Below.drew (Below.refl _ _)) hS0
          | exact held_next (by assumption) (by assumption)
          | exact held_next (by assumption) ⟨by assumption, by assumption, by assumption⟩
          | go_keep)
        ((first
          | (go_at_call 12; refine (HPV _).mono ?_; rintro e w' ⟨rfl, hb⟩)
          | (go_at_call 7; refine (awake_b3 (And.right (And.right (by assumption)))).mono ?_; rintro e w' ⟨rfl, hb⟩)))
      all_goals (go_wp2_with fail; go_ret; exact ⟨rfl, (And.right (And.right (by assumption : _ ∧ _ ∧ K3 w _))).2⟩)
end LBlocks
end Go.Proofs.YtfoocpidahiglaaDoor
