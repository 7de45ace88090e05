/- How many places a value has. -/
import Derived.Test.YtmamgaifpjgfkaaGreatDoorLtItM
namespace Go.Proofs.YtmamgaifpjgfkaaGreatDoor
open Go.RowKit

def kkP (p : PlT) : Nat := if itemB p.tn p.tl p.tm = true then p.tl.toNat else 0
theorem kk_le (p : PlT) : kkP p ≤ 4 := by
  unfold kkP
  split
  · rename_i h
    have := item_lists h
    omega
  · omega
theorem szL_sum : ∀ l : VL, (l.list.map szV).sum = szL l
  | .nil => by rw [VL.list, szL]; rfl
  | .cons v t => by rw [VL.list, szL, List.map_cons, List.sum_cons, szL_sum t]
theorem szM_sum : ∀ l : VM, (l.list.map fun x => szV x.2).sum = szM l
  | .nil => by rw [VM.list, szM]; rfl
  | .cons n v t => by rw [VM.list, szM, List.map_cons, List.sum_cons, szM_sum t]
theorem szV_pos : ∀ v : VT, 1 ≤ szV v
  | .mk _ _ _ l m => by rw [szV]; omega
theorem elems_sum (f : PlT → Nat) (n : ByteArray) (l m : Int) : ∀ vs : List VT, (∀ x, x ∈ elemsL n l m vs → f x ≤ 5 * szV x.v) → ((elemsL n l m vs).map f).sum ≤ 5 * (vs.map szV).sum
  | [], _ => by simp [elemsL]
  | v :: t, h => by
    have h1 := h ⟨n, l, m, false, v⟩ (by simp [elemsL])
    have h2 := elems_sum f n l m t (fun x hx => h x (by unfold elemsL at hx ⊢; rw [List.map_cons]; exact List.mem_cons_of_mem _ hx))
    unfold elemsL at h2 ⊢
    rw [List.map_cons, List.map_cons, List.sum_cons, List.map_cons, List.sum_cons]
    have h1 : f ⟨n, l, m, false, v⟩ ≤ 5 * szV v := h1
    omega
theorem mems_sum (f : PlT → Nat) (ps : List VarT) : ∀ ms : List (ByteArray × VT), (∀ x, x ∈ memsL ps ms → f x ≤ 5 * szV x.v) → ((memsL ps ms).map f).sum ≤ 5 * (ms.map fun x => szV x.2).sum
  | [], _ => by simp [memsL]
  | y :: t, h => by
    have h2 := mems_sum f ps t (fun x hx => h x (by unfold memsL at hx ⊢; rw [List.flatMap_cons]; exact List.mem_append_right _ hx))
    unfold memsL at h h2 ⊢
    rw [List.flatMap_cons, List.map_append, List.sum_append, List.map_cons, List.sum_cons]
    have h1 : ((if (paramD ps y.1).2 = true then [(⟨(paramD ps y.1).1.tn, (paramD ps y.1).1.tl, (paramD ps y.1).1.tm, (paramD ps y.1).1.has, y.2⟩ : PlT)] else []).map f).sum ≤ 5 * szV y.2 := by
      split
      · rename_i hp
        rw [List.map_cons, List.map_nil, List.sum_cons, List.sum_nil, Nat.add_zero]
        exact h ⟨(paramD ps y.1).1.tn, (paramD ps y.1).1.tl, (paramD ps y.1).1.tm, (paramD ps y.1).1.has, y.2⟩ (by rw [List.flatMap_cons, if_pos hp]; simp)
      · simp
    omega
theorem allP_len (D : List DefnT) : ∀ (n : Nat) (p : PlT), msr p ≤ n → (allP D p).length + 4 ≤ 5 * szV p.v + kkP p
  | n, p, hn => by
    rw [allP_eq, List.length_cons, List.length_flatMap]
    have hp := szV_pos p.v
    have ih : ∀ x, x ∈ withinL D p → (allP D x).length + 4 ≤ 5 * szV x.v + kkP x := fun x hx => by
      have h1 := within_msr hx
      cases n with
      | zero => omega
      | succ n => exact allP_len D n x (by omega)
    have ih5 : ∀ x, x ∈ withinL D p → (allP D x).length ≤ 5 * szV x.v := fun x hx => by
      have h1 := ih x hx
      have h2 := kk_le x
      omega
    unfold withinL at ih ih5 ⊢
    obtain ⟨tn, tl, tm, hs, k, nn, s, l, m⟩ := p
    have hv : szV (.mk k nn s l m) = 1 + szL l + szM m := by rw [szV]
    dsimp only at *
    split
    · simp; omega
    · rename_i h0
      rw [if_neg h0] at ih ih5
      split
      · rename_i hi
        rw [if_pos hi] at ih ih5
        split
        · rename_i h6
          rw [if_pos h6] at ih ih5
          have := elems_sum (fun x => (allP D x).length) tn (tl - 1) (tm / 2) l.list (fun x hx => ih5 x hx)
          rw [szL_sum] at this
          simp only [VT.ls] at *
          omega
        · rename_i h6
          rw [if_neg h6] at ih ih5
          have h1 := ih _ (List.mem_singleton.2 rfl)
          dsimp only at h1
          have h2 := item_lists hi
          have h3 : kkP ⟨tn, tl - 1, tm / 2, false, .mk k nn s l m⟩ + 1 ≤ kkP ⟨tn, tl, tm, hs, .mk k nn s l m⟩ := by
            unfold kkP
            rw [if_pos hi]
            dsimp only
            split <;> omega
          simp only [List.map_cons, List.map_nil, List.sum_cons, List.sum_nil, Nat.add_zero]
          omega
      · rename_i hi
        rw [if_neg hi] at ih ih5
        split
        · rename_i h7
          rw [if_pos h7] at ih ih5
          have := mems_sum (fun x => (allP D x).length) (findD D tn).1.params m.list (fun x hx => ih5 x hx)
          rw [szM_sum] at this
          simp only [VT.ms] at *
          omega
        · simp; omega
theorem allP_bd (D : List DefnT) (p : PlT) : (allP D p).length ≤ 5 * szV p.v := by
  have h1 := allP_len D _ p (Nat.le_refl _)
  have h2 := kk_le p
  omega
end Go.Proofs.YtmamgaifpjgfkaaGreatDoor
