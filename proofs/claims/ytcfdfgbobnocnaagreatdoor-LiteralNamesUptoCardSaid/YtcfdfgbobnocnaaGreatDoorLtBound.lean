/- How many places a value has. -/
import Derived.Test.YtcfdfgbobnocnaaGreatDoorLtWithin
namespace Go.Proofs.YtcfdfgbobnocnaaGreatDoor
open Go.RowKit

mutual
def szV : VT → Nat
  | .mk _ _ _ l m => 1 + szL l + szM m
def szL : VL → Nat
  | .nil => 0
  | .cons v t => szV v + szL t
def szM : VM → Nat
  | .nil => 0
  | .cons _ v t => szV v + szM t
end
theorem szL_mem : ∀ {l : VL} {x : VT}, x ∈ l.list → szV x ≤ szL l
  | .nil, x, h => by simp [VL.list] at h
  | .cons v t, x, h => by
    rw [VL.list] at h
    rw [szL]
    rcases List.mem_cons.1 h with rfl | h
    · omega
    · have := szL_mem h
      omega
theorem szM_mem : ∀ {l : VM} {x : ByteArray × VT}, x ∈ l.list → szV x.2 ≤ szM l
  | .nil, x, h => by simp [VM.list] at h
  | .cons n v t, x, h => by
    rw [VM.list] at h
    rw [szM]
    rcases List.mem_cons.1 h with rfl | h
    · show szV v ≤ szV v + szM t; omega
    · have := szM_mem h
      omega
def msr (p : PlT) : Nat := szV p.v * 8 + (if itemB p.tn p.tl p.tm = true then p.tl.toNat else 0)
theorem item_lists {n : ByteArray} {l m : Int} (h : itemB n l m = true) : 1 ≤ l ∧ l ≤ 4 := by
  unfold itemB at h
  rw [Bool.and_eq_true, decide_eq_true_eq] at h
  have := right_small h.1
  omega
theorem msr_lt {p : PlT} {k : Nat} (h : szV p.v < k) : msr p < k * 8 := by
  unfold msr
  split
  · rename_i h1
    have := item_lists h1
    omega
  · omega
theorem msr_ge (p : PlT) : szV p.v * 8 ≤ msr p := by unfold msr; omega
theorem within_msr {D : List DefnT} {p x : PlT} (h : x ∈ withinL D p) : msr x < msr p := by
  unfold withinL at h
  split at h
  · simp at h
  · split at h
    · rename_i hi
      split at h
      · unfold elemsL at h
        obtain ⟨v, hv, rfl⟩ := List.mem_map.1 h
        have h1 := szL_mem hv
        obtain ⟨tn, tl, tm, hs, k, n, s, l, m⟩ := p
        have h2 : szV (.mk k n s l m) = 1 + szL l + szM m := by rw [szV]
        have := msr_ge ⟨tn, tl, tm, hs, .mk k n s l m⟩
        have := msr_lt (p := ⟨tn, tl - 1, tm / 2, false, v⟩) (k := szL l + 1) (by show szV v < szL l + 1; have h1 : szV v ≤ szL l := h1; omega)
        have h3 : msr ⟨tn, tl, tm, hs, .mk k n s l m⟩ ≥ szV (.mk k n s l m) * 8 := msr_ge ⟨tn, tl, tm, hs, .mk k n s l m⟩
        show msr ⟨tn, tl - 1, tm / 2, false, v⟩ < msr ⟨tn, tl, tm, hs, .mk k n s l m⟩
        omega
      · obtain rfl : x = _ := by simpa using h
        have h1 := item_lists hi
        unfold msr
        rw [if_pos hi]
        dsimp only
        split
        · omega
        · omega
    · split at h
      · unfold memsL at h
        obtain ⟨y, hy, hx⟩ := List.mem_flatMap.1 h
        have h1 := szM_mem hy
        split at hx
        · obtain rfl : x = _ := by simpa using hx
          obtain ⟨tn, tl, tm, hs, k, n, s, l, m⟩ := p
          have h2 : szV (.mk k n s l m) = 1 + szL l + szM m := by rw [szV]
          have h1 : szV y.2 ≤ szM m := h1
          have h3 : msr ⟨tn, tl, tm, hs, .mk k n s l m⟩ ≥ szV (.mk k n s l m) * 8 := msr_ge ⟨tn, tl, tm, hs, .mk k n s l m⟩
          have h4 := msr_lt (p := ⟨(paramD (findD D tn).1.params y.1).1.tn, (paramD (findD D tn).1.params y.1).1.tl, (paramD (findD D tn).1.params y.1).1.tm, (paramD (findD D tn).1.params y.1).1.has, y.2⟩) (k := szM m + 1) (by show szV y.2 < szM m + 1; omega)
          refine Nat.lt_of_lt_of_le h4 ?_
          show (szM m + 1) * 8 ≤ msr ⟨tn, tl, tm, hs, .mk k n s l m⟩
          omega
        · simp at hx
      · simp at h
def placesF (D : List DefnT) : Nat → PlT → List PlT
  | 0, p => [p]
  | f + 1, p => p :: (withinL D p).flatMap (placesF D f)
theorem placesF_more {D : List DefnT} : ∀ (f g : Nat) (p : PlT), msr p ≤ f → msr p ≤ g → placesF D f p = placesF D g p
  | 0, 0, _, _, _ => rfl
  | 0, g + 1, p, h, _ => by
    have : withinL D p = [] := by
      rw [List.eq_nil_iff_forall_not_mem]
      intro x hx
      have := within_msr hx
      omega
    rw [placesF, placesF, this]
    rfl
  | f + 1, 0, p, _, h => by
    have : withinL D p = [] := by
      rw [List.eq_nil_iff_forall_not_mem]
      intro x hx
      have := within_msr hx
      omega
    rw [placesF, placesF, this]
    rfl
  | f + 1, g + 1, p, h1, h2 => by
    rw [placesF, placesF]
    congr 1
    have hh : ∀ l : List PlT, (∀ x, x ∈ l → msr x < msr p) → l.flatMap (placesF D f) = l.flatMap (placesF D g) := by
      intro l
      induction l with
      | nil => intro _; rfl
      | cons a t ih =>
        intro h
        rw [List.flatMap_cons, List.flatMap_cons, ih (fun x hx => h x (List.mem_cons_of_mem _ hx)), placesF_more f g a (by have := h a (List.mem_cons_self ..); omega) (by have := h a (List.mem_cons_self ..); omega)]
    exact hh _ (fun x hx => within_msr hx)
def allP (D : List DefnT) (p : PlT) : List PlT := placesF D (msr p) p
theorem allP_eq (D : List DefnT) (p : PlT) : allP D p = p :: (withinL D p).flatMap (allP D) := by
  unfold allP
  rw [placesF_more (msr p) (msr p + 1) p (Nat.le_refl _) (Nat.le_succ _), placesF]
  congr 1
  have hh : ∀ l : List PlT, (∀ x, x ∈ l → msr x < msr p) → l.flatMap (placesF D (msr p)) = l.flatMap (fun x => placesF D (msr x) x) := by
    intro l
    induction l with
    | nil => intro _; rfl
    | cons a t ih =>
      intro h
      rw [List.flatMap_cons, List.flatMap_cons, ih (fun x hx => h x (List.mem_cons_of_mem _ hx)), placesF_more (msr p) (msr a) a (by have := h a (List.mem_cons_self ..); omega) (Nat.le_refl _)]
  exact hh _ (fun x hx => within_msr hx)
/-- What is left: the innermost list first. -/
def leftP (D : List DefnT) (stk : List (List PlT)) : List PlT := stk.reverse.flatMap fun l => l.flatMap (allP D)
theorem leftP_snoc (D : List DefnT) (stk : List (List PlT)) (l : List PlT) : leftP D (stk ++ [l]) = l.flatMap (allP D) ++ leftP D stk := by
  unfold leftP
  rw [List.reverse_append]
  rfl
theorem left_cons (D : List DefnT) (x : PlT) (l : List PlT) : (x :: l).flatMap (allP D) = x :: ((withinL D x).flatMap (allP D) ++ l.flatMap (allP D)) := by
  rw [List.flatMap_cons, allP_eq]
  rfl
end Go.Proofs.YtcfdfgbobnocnaaGreatDoor
namespace Go.Proofs.YtcfdfgbobnocnaaGreatDoor
open Go.RowKit

def kkP (p : PlT) : Nat := if itemB p.tn p.tl p.tm = true then p.tl.toNat else 0
theorem kk_le (p : PlT) : kkP p ≤ 4 := by
  unfold kkP
  split
  · rename_i h
    have := item_lists h
    omega
  · omega
theorem szL_sum : ∀ l : VL, (l.list.map szV).sum = szL l
  | .nil => by rw [VL.list, szL]; rfl
  | .cons v t => by rw [VL.list, szL, List.map_cons, List.sum_cons, szL_sum t]
theorem szM_sum : ∀ l : VM, (l.list.map fun x => szV x.2).sum = szM l
  | .nil => by rw [VM.list, szM]; rfl
  | .cons n v t => by rw [VM.list, szM, List.map_cons, List.sum_cons, szM_sum t]
theorem szV_pos : ∀ v : VT, 1 ≤ szV v
  | .mk _ _ _ l m => by rw [szV]; omega
theorem elems_sum (f : PlT → Nat) (n : ByteArray) (l m : Int) : ∀ vs : List VT, (∀ x, x ∈ elemsL n l m vs → f x ≤ 5 * szV x.v) → ((elemsL n l m vs).map f).sum ≤ 5 * (vs.map szV).sum
  | [], _ => by simp [elemsL]
  | v :: t, h => by
    have h1 := h ⟨n, l, m, false, v⟩ (by simp [elemsL])
    have h2 := elems_sum f n l m t (fun x hx => h x (by unfold elemsL at hx ⊢; rw [List.map_cons]; exact List.mem_cons_of_mem _ hx))
    unfold elemsL at h2 ⊢
    rw [List.map_cons, List.map_cons, List.sum_cons, List.map_cons, List.sum_cons]
    have h1 : f ⟨n, l, m, false, v⟩ ≤ 5 * szV v := h1
    omega
theorem mems_sum (f : PlT → Nat) (ps : List VarT) : ∀ ms : List (ByteArray × VT), (∀ x, x ∈ memsL ps ms → f x ≤ 5 * szV x.v) → ((memsL ps ms).map f).sum ≤ 5 * (ms.map fun x => szV x.2).sum
  | [], _ => by simp [memsL]
  | y :: t, h => by
    have h2 := mems_sum f ps t (fun x hx => h x (by unfold memsL at hx ⊢; rw [List.flatMap_cons]; exact List.mem_append_right _ hx))
    unfold memsL at h h2 ⊢
    rw [List.flatMap_cons, List.map_append, List.sum_append, List.map_cons, List.sum_cons]
    have h1 : ((if (paramD ps y.1).2 = true then [(⟨(paramD ps y.1).1.tn, (paramD ps y.1).1.tl, (paramD ps y.1).1.tm, (paramD ps y.1).1.has, y.2⟩ : PlT)] else []).map f).sum ≤ 5 * szV y.2 := by
      split
      · rename_i hp
        rw [List.map_cons, List.map_nil, List.sum_cons, List.sum_nil, Nat.add_zero]
        exact h ⟨(paramD ps y.1).1.tn, (paramD ps y.1).1.tl, (paramD ps y.1).1.tm, (paramD ps y.1).1.has, y.2⟩ (by rw [List.flatMap_cons, if_pos hp]; simp)
      · simp
    omega
theorem allP_len (D : List DefnT) : ∀ (n : Nat) (p : PlT), msr p ≤ n → (allP D p).length + 4 ≤ 5 * szV p.v + kkP p
  | n, p, hn => by
    rw [allP_eq, List.length_cons, List.length_flatMap]
    have hp := szV_pos p.v
    have ih : ∀ x, x ∈ withinL D p → (allP D x).length + 4 ≤ 5 * szV x.v + kkP x := fun x hx => by
      have h1 := within_msr hx
      cases n with
      | zero => omega
      | succ n => exact allP_len D n x (by omega)
    have ih5 : ∀ x, x ∈ withinL D p → (allP D x).length ≤ 5 * szV x.v := fun x hx => by
      have h1 := ih x hx
      have h2 := kk_le x
      omega
    unfold withinL at ih ih5 ⊢
    obtain ⟨tn, tl, tm, hs, k, nn, s, l, m⟩ := p
    have hv : szV (.mk k nn s l m) = 1 + szL l + szM m := by rw [szV]
    dsimp only at *
    split
    · simp; omega
    · rename_i h0
      rw [if_neg h0] at ih ih5
      split
      · rename_i hi
        rw [if_pos hi] at ih ih5
        split
        · rename_i h6
          rw [if_pos h6] at ih ih5
          have := elems_sum (fun x => (allP D x).length) tn (tl - 1) (tm / 2) l.list (fun x hx => ih5 x hx)
          rw [szL_sum] at this
          simp only [VT.ls] at *
          omega
        · rename_i h6
          rw [if_neg h6] at ih ih5
          have h1 := ih _ (List.mem_singleton.2 rfl)
          dsimp only at h1
          have h2 := item_lists hi
          have h3 : kkP ⟨tn, tl - 1, tm / 2, false, .mk k nn s l m⟩ + 1 ≤ kkP ⟨tn, tl, tm, hs, .mk k nn s l m⟩ := by
            unfold kkP
            rw [if_pos hi]
            dsimp only
            split <;> omega
          simp only [List.map_cons, List.map_nil, List.sum_cons, List.sum_nil, Nat.add_zero]
          omega
      · rename_i hi
        rw [if_neg hi] at ih ih5
        split
        · rename_i h7
          rw [if_pos h7] at ih ih5
          have := mems_sum (fun x => (allP D x).length) (findD D tn).1.params m.list (fun x hx => ih5 x hx)
          rw [szM_sum] at this
          simp only [VT.ms] at *
          omega
        · simp; omega
theorem allP_bd (D : List DefnT) (p : PlT) : (allP D p).length ≤ 5 * szV p.v := by
  have h1 := allP_len D _ p (Nat.le_refl _)
  have h2 := kk_le p
  omega
end Go.Proofs.YtcfdfgbobnocnaaGreatDoor
