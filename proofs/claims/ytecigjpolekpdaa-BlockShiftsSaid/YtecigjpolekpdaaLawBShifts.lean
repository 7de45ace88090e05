/- The walk of the law BlockShifts, from the package's contracts. -/
import Derived.Test.YtecigjpolekpdaaBlockOf
namespace Go.Proofs.Ytecigjpolekpdaa
open Go.RowKit

theorem after_none {l : List UInt8} (h : afterL l = none) : plainL l := by
  have e : l.dropWhile (fun c => !eolB c) = [] := by
    unfold afterL at h
    split at h
    · assumption
    · split at h
      · split at h
        · split at h <;> cases h
        · cases h
      · cases h
  have := List.takeWhile_append_dropWhile (p := fun c => !eolB c) (l := l)
  rw [e, List.append_nil] at this
  rw [← this]
  exact takeWhile_all l
theorem one_line {l : List UInt8} (h : (linesL l).length = 1) : plainL l := by
  rw [linesL_eq] at h
  cases ha : afterL l with
  | none => exact after_none ha
  | some t =>
    rw [ha] at h
    have := linesL_ne t
    dsimp only at h
    cases hl : linesL t with
    | nil => exact absurd hl this
    | cons _ _ => rw [hl] at h; simp at h
def ShiftTo (N : Nat) (xs : List ByteArray) (k : Nat) (a b : ByteArray) : Prop :=
  a.data.toList = stackL (bytesL (xs.take k)) ∧ b.data.toList = stackL ((bytesL (xs.take k)).map (gapL N ++ ·)) ∧ ∀ x ∈ bytesL (xs.take k), plainL x
theorem ShiftTo.next {N k : Nat} {xs : List ByteArray} {a b x G : ByteArray} (h : ShiftTo N xs k a b) (hx : xs[k]? = some x) (hp : plainL x.data.toList) (hG : G.data.toList = gapL N) :
    ShiftTo N xs (k + 1) (a ++ ⟨#[10]⟩ ++ x) (b ++ ⟨#[10]⟩ ++ G ++ x) := by
  obtain ⟨h1, h2, h3⟩ := h
  have e : bytesL (xs.take (k + 1)) = bytesL (xs.take k) ++ [x.data.toList] := by
    unfold bytesL
    rw [List.take_add_one, hx, List.map_append]; rfl
  refine ⟨?_, ?_, ?_⟩
  · rw [e, stack_snoc, ← h1]; simp
  · rw [e, List.map_append, List.map_cons, List.map_nil, stack_snoc, ← h2, ← hG]; simp
  · intro y hy
    rw [e, List.mem_append] at hy
    rcases hy with hy | hy
    · exact h3 y hy
    · simp only [List.mem_cons, List.not_mem_nil, or_false] at hy
      rw [hy]; exact hp
theorem ShiftTo.done {N k : Nat} {xs : List ByteArray} {a b : ByteArray} (h : ShiftTo N xs k a b) : valueL b.data.toList = valueL a.data.toList := by
  obtain ⟨h1, h2, h3⟩ := h
  rw [h1, h2, shifts _ N h3]

set_option maxRecDepth 100000 in
set_option maxHeartbeats 2000000 in
theorem bshifts_walk {I : World → Prop} (B : BlockOf I) (w : World) (hI : I w) (A : Option Addr) (n c : Nat) (xs : List ByteArray) (hz : StrsAt w w.heap.size A n xs) (v : Int) :
    Calls Try.prog 7 #[.slice A n c, .int .i64 v] w fun e w' => e = .returned (.bool true) ∧ Below w.heap.size w w' := by
  have K0 := Lib.hid (KeptI.start hI)
  have Z0 := Lib.hid hz
  clear hI hz
  by_cases hbig : 100 < n ∨ v < 0 ∨ 20 < v
  · have eb : decide (100 < (n : Int)) = true ∨ (decide (100 < (n : Int)) = false ∧ (decide (v < 0) = true ∨ (decide (v < 0) = false ∧ decide (20 < v) = true))) := by
      by_cases a : 100 < n
      · left; simp; omega
      · right
        refine ⟨by simp; omega, ?_⟩
        by_cases b : v < 0
        · left; simpa using b
        · right; exact ⟨by simpa using b, by simp; omega⟩
    rcases eb with e1 | ⟨e1, e2 | ⟨e2, e3⟩⟩
    all_goals
      go_enter Try.func7, Try.ntmps7
      go_wp2_with fail
      refine (awake_b B K0.out).mono ?_
      rintro e w1 ⟨rfl, K⟩
      go_wp2_with fail
      go_ret
      exact ⟨rfl, K.2⟩
  obtain ⟨N, rfl⟩ := Int.eq_ofNat_of_zero_le (show 0 ≤ v by omega)
  have hn100 : n ≤ 100 := by omega
  have hN20 : N ≤ 20 := by omega
  have hN0 : (0 : Int) ≤ (N : Int) := by omega
  clear hbig
  go_enter Try.func7, Try.ntmps7
  go_wp2_with fail
  go_loopg [5, 6] N (fun g gv i wx => ∃ (k : Nat) (G : ByteArray), k + g = N ∧ i = .int .i64 k ∧ gv = .string G ∧ G.size = k ∧ Aside (G.data.toList = gapL k) ∧ w = wx)
  case atStart => exact ⟨0, ⟨#[]⟩, by omega, rfl, rfl, rfl, Aside.intro rfl, rfl⟩
  case round =>
    obtain ⟨k, G, hk, rfl, rfl, hGs, H, rfl⟩ := hrel
    cases gk with
    | succ g =>
      have hlt : k < N := by omega
      have hlt' : (k : Int) < (N : Int) := by omega
      have hT : Hid ((G ++ ⟨#[32]⟩).data.toList = gapL (k + 1)) := Lib.hid (by
        have h := H.out
        unfold gapL at h ⊢
        rw [List.replicate_succ', ← h]; simp)
      have hS : Hid ((G ++ ⟨#[32]⟩).size = k + 1) := Lib.hid (by rw [ByteArray.size_append, hGs]; rfl)
      clear H
      go_wp2_with fail
      go_roundg g
      case measure => omega
      case rel => exact ⟨k + 1, _, by omega, by go_num, rfl, hS.out, Aside.intro hT.out, rfl⟩
    | zero =>
      obtain rfl : k = N := by omega
      have HGD := Lib.hid H.out
      clear H
      generalize k = N at *
      go_wp2_with fail
      go_loopg [7, 8, 9] n (fun g av bv i wx => ∃ (k : Nat) (a b : ByteArray), k + g = n ∧ i = .int .i64 k ∧ av = .string a ∧ bv = .string b ∧ a.size ≤ 130 * k ∧ b.size ≤ 130 * k ∧ Aside (ShiftTo N xs k a b) ∧ KeptI I w wx)
      case atStart => exact ⟨0, ⟨#[]⟩, ⟨#[]⟩, by omega, rfl, rfl, rfl, Nat.le_refl _, Nat.le_refl _, Aside.intro ⟨rfl, rfl, fun x hx => by cases hx⟩, K0.out⟩
      case round =>
          obtain ⟨k, a, b, hk, rfl, rfl, rfl, has, hbs, H, K⟩ := hrel
          have KR := Lib.hid K
          clear K
          cases gk with
          | zero =>
            obtain rfl : k = n := by omega
            have hV := Lib.hid H.out.done
            clear H
            go_wp2_with fail
            refine (value_k B KR.out a (by omega)).mono ?_
            rintro e w2 ⟨rfl, k2, -⟩
            have K2 := Lib.hid k2
            clear k2
            go_wp2_with fail
            refine (value_k B K2.out b (by omega)).mono ?_
            rintro e w3 ⟨rfl, k3, -⟩
            have K3 := Lib.hid k3
            clear k3
            rw [hV.out]
            generalize (⟨(valueL a.data.toList).toArray⟩ : ByteArray) = V at *
            go_wp2_with fail
            refine (awake_b B K3.out).mono ?_
            rintro e w4 ⟨rfl, K⟩
            go_wp2_with fail
            go_ret
            exact ⟨rfl, K.2⟩
          | succ g =>
            have hlt : k < n := by omega
            have hlt' : (k : Int) < (n : Int) := by omega
            have hk0 : (0 : Int) ≤ (k : Int) := by omega
            obtain ⟨x, hx⟩ : ∃ x, xs[k]? = some x := ⟨_, List.getElem?_eq_getElem (by rw [Z0.out.1]; omega)⟩
            obtain ⟨p, o, rfl, _, hcell⟩ := (Z0.out.on KR.out.2).2 k x hx
            by_cases hxb : 100 < x.size
            · have e1 : decide (100 < (x.size : Int)) = true := by simp; omega
              clear H hx
              go_wp2_with fail
              refine (awake_b B KR.out).mono ?_
              rintro e w1 ⟨rfl, K⟩
              go_wp2_with fail
              go_ret
              exact ⟨rfl, K.2⟩
            · have e1 : decide (100 < (x.size : Int)) = false := by simp; omega
              have HX := Lib.hid hx
              have hlen : (linesB x.data.toList).length = (linesL x.data.toList).length := by unfold linesB; rw [List.length_map]
              clear hx
              go_wp2_with fail
              refine (lines_k B KR.out x (by omega)).mono ?_
              rintro e w2 ⟨A2, cap2, rfl, -, k2, hb2⟩
              have hc2 : w2.cell? ⟨p, o + k, none⟩ = some (.string x) := by
                obtain ⟨p', o', e', _, hcell'⟩ := (Z0.out.on k2.2).2 k x HX.out
                injection e' with e'
                injection e' with e1 e2
                subst e1 e2
                exact hcell'
              have K2 := Lib.hid k2
              clear k2 hb2 hcell
              generalize hL : (linesB x.data.toList).length = L at *
              by_cases hL1 : L = 1
              · subst hL1
                have hp : plainL x.data.toList := one_line (by omega)
                have HN := Lib.hid (H.out.next HX.out hp HGD.out)
                have e10 : (⟨#[10]⟩ : ByteArray).size = 1 := rfl
                have s1 : (a ++ ⟨#[10]⟩).size = a.size + 1 := ByteArray.size_append
                have s2 : (b ++ ⟨#[10]⟩).size = b.size + 1 := ByteArray.size_append
                have s3 : (b ++ ⟨#[10]⟩ ++ G).size = b.size + 1 + N := by rw [ByteArray.size_append, s2, hGs]
                have s4 : Hid ((a ++ ⟨#[10]⟩ ++ x).size ≤ 130 * (k + 1)) := Lib.hid (by rw [ByteArray.size_append, s1]; omega)
                have s5 : Hid ((b ++ ⟨#[10]⟩ ++ G ++ x).size ≤ 130 * (k + 1)) := Lib.hid (by rw [ByteArray.size_append, s3]; omega)
                clear H hp hlen
                go_wp2_with fail
                go_quiet (fail)
                go_wp2_with fail
                go_roundg g
                case measure => omega
                case rel => exact ⟨k + 1, _, _, by omega, by go_num, rfl, rfl, s4.out, s5.out, Aside.intro HN.out, K2.out.next B (below_draws (Below.refl _ _) _)⟩
              · have e2 : ((L : Int) != 1) = true := by simp; omega
                clear H hlen
                go_wp2_with fail
                refine (awake_b B K2.out).mono ?_
                rintro e w3 ⟨rfl, K⟩
                go_wp2_with fail
                go_ret
                exact ⟨rfl, K.2⟩
namespace LBShifts
theorem walk (B : BlockOf fun _ => True) (w : World) (A : Option Addr) (n c : Nat) (xs : List ByteArray) (h : StrsAt w w.heap.size A n xs ∧ (A = none → n = 0 ∧ c = 0)) (v : Int) (_ : (Lit.int .i64 v).wf = true) : Calls Try.prog 7 #[.slice A n c, .int .i64 v] w fun e w' => e = .returned (.bool true) ∧ Below w.heap.size w w' := bshifts_walk B w trivial A n c xs h.1 v
end LBShifts
end Go.Proofs.Ytecigjpolekpdaa
