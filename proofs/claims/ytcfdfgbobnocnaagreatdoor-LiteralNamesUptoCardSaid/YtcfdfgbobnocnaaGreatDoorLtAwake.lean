/- The page's examples. -/
import Derived.Test.YtcfdfgbobnocnaaGreatDoorLtOpen
import Derived.Test.YtcfdfgbobnocnaaGreatDoorLtSpots
namespace Go.Proofs.YtcfdfgbobnocnaaGreatDoor
open Go.RowKit

theorem within_none {D : List DefnT} {n : ByteArray} {l m : Int} {hs : Bool} {v : VT} (h : v.kd = 8 ∨ v.kd = 0) : withinL D ⟨n, l, m, hs, v⟩ = [] := by
  unfold withinL
  dsimp only
  rw [if_pos h]
theorem within_els {D : List DefnT} {n : ByteArray} {l m : Int} {hs : Bool} {v : VT} (hi : itemB n l m = true) (h6 : v.kd = 6) : withinL D ⟨n, l, m, hs, v⟩ = elemsL n (l - 1) (m / 2) v.ls.list := by
  have a : ¬ (v.kd = 8 ∨ v.kd = 0) := by omega
  unfold withinL
  dsimp only
  rw [if_neg a, if_pos hi, if_pos h6]
theorem within_one {D : List DefnT} {n : ByteArray} {l m : Int} {hs : Bool} {v : VT} (a : ¬ (v.kd = 8 ∨ v.kd = 0)) (hi : itemB n l m = true) (h6 : v.kd ≠ 6) : withinL D ⟨n, l, m, hs, v⟩ = [⟨n, l - 1, m / 2, false, v⟩] := by
  unfold withinL
  dsimp only
  rw [if_neg a, if_pos hi, if_neg h6]
theorem within_map {D : List DefnT} {n : ByteArray} {l m : Int} {hs : Bool} {v : VT} (hi : ¬ itemB n l m = true) (h7 : v.kd = 7) : withinL D ⟨n, l, m, hs, v⟩ = memsL (findD D n).1.params v.ms.list := by
  have a : ¬ (v.kd = 8 ∨ v.kd = 0) := by omega
  unfold withinL
  dsimp only
  rw [if_neg a, if_neg hi, if_pos h7]
theorem within_leaf {D : List DefnT} {n : ByteArray} {l m : Int} {hs : Bool} {v : VT} (hi : ¬ itemB n l m = true) (h7 : v.kd ≠ 7) : withinL D ⟨n, l, m, hs, v⟩ = [] := by
  unfold withinL
  dsimp only
  rw [if_neg hi, if_neg h7]
  split <;> rfl
theorem fits_els {D : List DefnT} {n : ByteArray} {l m : Int} {v : VT} (hr : rightT n.data.toList l m = true) (hi : itemB n l m = true) (h6 : v.kd = 6) : fitsB D n l m v = mayB n (l - 1) (m / 2) v.ls.list := by
  have k8 : ¬ ((v.kd == 8) = true) := by rw [h6]; decide
  have k0 : ¬ ((v.kd == 0) = true) := by rw [h6]; decide
  have k6 : (v.kd == 6) = true := by rw [h6]; rfl
  unfold fitsB
  rw [if_pos hr, if_neg k8, if_neg k0, if_pos hi, if_pos k6]
theorem fits_flat {D : List DefnT} {n : ByteArray} {l m : Int} {v : VT} (hr : rightT n.data.toList l m = true) (hi : ¬ itemB n l m = true) (h8 : v.kd ≠ 8) (h0 : v.kd ≠ 0) : fitsB D n l m v = namedB D n v := by
  have k8 : ¬ ((v.kd == 8) = true) := by simpa using h8
  have k0 : ¬ ((v.kd == 0) = true) := by simpa using h0
  unfold fitsB
  rw [if_pos hr, if_neg k8, if_neg k0, if_neg hi]
theorem last_bits {m : Int} (h0 : 0 ≤ m) (h1 : m < 32) : bits .andNot .i64 m 1 = 2 * (m / 2) ∧ bits .or .i64 m 1 = 2 * (m / 2) + 1 := by
  have H : ∀ a : Fin 32, bits .andNot .i64 ((a.val : Nat) : Int) 1 = 2 * (((a.val : Nat) : Int) / 2) ∧ bits .or .i64 ((a.val : Nat) : Int) 1 = 2 * (((a.val : Nat) : Int) / 2) + 1 := by decide +kernel
  obtain ⟨k, rfl⟩ := Int.eq_ofNat_of_zero_le h0
  exact H ⟨k, by omega⟩
theorem last_right {n : List UInt8} {l m : Int} (h : rightT n l m = true) : rightT n l (2 * (m / 2)) = true ∧ rightT n l (2 * (m / 2) + 1) = true := by
  obtain ⟨h1, h2, h3, h4, h5⟩ := right_true h
  have hp : (2 : Int) ^ (l.toNat + 1) = 2 ^ l.toNat * 2 := Int.pow_succ _ _
  rw [hp] at h5
  exact ⟨right_of h1 h2 h3 (by omega) (by rw [hp]; omega), right_of h1 h2 h3 (by omega) (by rw [hp]; omega)⟩
theorem last_fits {D : List DefnT} {n : ByteArray} {l m m' : Int} {v : VT} (h : rightT n.data.toList l m = true) (h' : rightT n.data.toList l m' = true) (he : m / 2 = m' / 2) (hv : v.kd ≠ 0) : fitsB D n l m v = fitsB D n l m' v := by
  unfold fitsB itemB
  rw [h, h', he]
  simp [hv]
theorem last_within {D : List DefnT} {n : ByteArray} {l m m' : Int} {v : VT} (h : rightT n.data.toList l m = true) (h' : rightT n.data.toList l m' = true) (he : m / 2 = m' / 2) : withinL D ⟨n, l, m, false, v⟩ = withinL D ⟨n, l, m', false, v⟩ := by
  unfold withinL itemB
  dsimp only
  rw [h, h', he]
theorem last_same {D : List DefnT} {n : ByteArray} {l m m' : Int} {v : VT} (h : rightT n.data.toList l m = true) (h' : rightT n.data.toList l m' = true) (he : m / 2 = m' / 2) (hv : v.kd ≠ 0) : rightL D ⟨n, l, m, false, v⟩ = rightL D ⟨n, l, m', false, v⟩ := by
  unfold rightL
  rw [allP_eq, allP_eq D ⟨n, l, m', false, v⟩, last_within h h' he, List.all_cons, List.all_cons]
  dsimp only
  rw [last_fits h h' he hv]
theorem null_right {D : List DefnT} {n : ByteArray} {l m : Int} {v : VT} (h : rightT n.data.toList l m = true) (hv : v.kd = 0) : rightL D ⟨n, l, m, false, v⟩ = (fitV goodB v && !isB n.data.toList l m) := by
  have hw : withinL D ⟨n, l, m, false, v⟩ = [] := by
    exact within_none (Or.inr hv)
  have hf : fitsB D n l m v = !isB n.data.toList l m := by
    unfold fitsB
    simp [h, hv]
  unfold rightL
  rw [allP_eq, hw, List.flatMap_nil, List.all_cons, List.all_nil, Bool.and_true]
  dsimp only
  rw [hf]
theorem bare_must {D : List DefnT} {n : ByteArray} {l m : Int} (v : VT) (h : rightT n.data.toList l m = true) :
    (rightL D ⟨n, l, 2 * (m / 2) + 1, false, v⟩ = true → rightL D ⟨n, l, 2 * (m / 2), false, v⟩ = true) ∧ (v.kd ≠ 0 → rightL D ⟨n, l, 2 * (m / 2), false, v⟩ = rightL D ⟨n, l, 2 * (m / 2) + 1, false, v⟩) := by
  obtain ⟨h1, h2⟩ := last_right h
  have he : (2 * (m / 2)) / 2 = (2 * (m / 2) + 1) / 2 := by omega
  refine ⟨fun hh => ?_, fun hv => last_same h1 h2 he hv⟩
  by_cases hv : v.kd = 0
  · rw [null_right h2 hv] at hh
    rw [null_right h1 hv]
    unfold isB at hh ⊢
    rw [h1]
    rw [h2] at hh
    have e1 : ((2 * (m / 2)) % 2 == 1) = false := by simp
    have e2 : ((2 * (m / 2) + 1) % 2 == 1) = true := by simp
    rw [e2] at hh
    simp at hh
  · rw [last_same h1 h2 he hv]
    exact hh
theorem zero_right {D : List DefnT} {n : ByteArray} {l m : Int} (h : rightT n.data.toList l m = true) : rightL D ⟨n, l, m, false, .mk 0 0 ⟨#[]⟩ .nil .nil⟩ = !isB n.data.toList l m := by
  rw [null_right h rfl]
  have : fitV goodB (.mk 0 0 ⟨#[]⟩ .nil .nil) = true := by kernel_rfl
  rw [this, Bool.true_and]
theorem fitL_all : ∀ l : VL, fitL goodB l = l.list.all (fitV goodB)
  | .nil => rfl
  | .cons v t => by rw [fitL, VL.list, List.all_cons, fitL_all t]
theorem list_goodL (l : VL) : fitV goodB (.mk 6 0 ⟨#[]⟩ l .nil) = l.list.all (fitV goodB) := by
  rw [fitV, fitM, fitL_all]
  have : soundB 6 0 (⟨#[]⟩ : ByteArray).data.toList l.len VM.nil.len = true := rfl
  rw [this]; simp
theorem all_three (a : Bool) (g f : VT → Bool) (p : VT → Bool) : ∀ xs : List VT, (xs.all g && ((a || !xs.any p) && xs.all f)) = xs.all fun x => (g x && f x) && (a || !p x)
  | [] => by cases a <;> rfl
  | x :: xs => by
    rw [List.all_cons, List.all_cons, List.all_cons, List.any_cons, ← all_three a g f p xs]
    cases a <;> cases g x <;> cases f x <;> cases p x <;> simp
theorem all_flat {α β : Type} (f : α → List β) (p : β → Bool) : ∀ xs : List α, (xs.flatMap f).all p = xs.all fun x => (f x).all p
  | [] => rfl
  | x :: xs => by rw [List.flatMap_cons, List.all_append, List.all_cons, all_flat f p xs]
theorem list_up {n : List UInt8} {l m : Int} (h : rightT n l m = true) (hl : l ≠ 4) : rightT n (l + 1) (m * 2) = true := by
  obtain ⟨h1, h2, h3, h4, h5⟩ := right_true h
  have e : (l + 1).toNat = l.toNat + 1 := by omega
  have hp : (2 : Int) ^ (l.toNat + 1 + 1) = 2 ^ (l.toNat + 1) * 2 := by rw [Int.pow_succ]
  exact right_of h1 (by omega) (by omega) (by omega) (by rw [e, hp]; omega)
theorem right_list (D : List DefnT) (n : ByteArray) (l m : Int) (ls : VL) (h : rightT n.data.toList l m = true) (hl : l ≠ 4) : rightL D ⟨n, l + 1, m * 2, false, .mk 6 0 ⟨#[]⟩ ls .nil⟩ = ls.list.all fun x => rightL D ⟨n, l, m, false, x⟩ && (decide (l = 0) || !aloneB x) := by
  have hu := list_up h hl
  have hs := right_small h
  have hi : itemB n (l + 1) (m * 2) = true := by unfold itemB; rw [hu, Bool.true_and, decide_eq_true_eq]; omega
  have e1 : l + 1 - 1 = l := by omega
  have e2 : m * 2 / 2 = m := by omega
  have hw : withinL D ⟨n, l + 1, m * 2, false, .mk 6 0 ⟨#[]⟩ ls .nil⟩ = ls.list.map fun x => ⟨n, l, m, false, x⟩ := by
    rw [within_els hi rfl, e1, e2]
    rfl
  have hf : fitsB D n (l + 1) (m * 2) (.mk 6 0 ⟨#[]⟩ ls .nil) = (decide (l = 0) || !ls.list.any aloneB) := by
    rw [fits_els hu hi rfl, e1, e2]
    unfold mayB
    have : itemB n l m = !decide (l = 0) := by
      unfold itemB
      rw [h, Bool.true_and]
      by_cases h0 : l = 0 <;> simp [h0]
    rw [this, Bool.not_not]
    rfl
  have hr : ∀ x, rightL D ⟨n, l, m, false, x⟩ = (fitV goodB x && (allP D ⟨n, l, m, false, x⟩).all fun y => fitsB D y.tn y.tl y.tm y.v) := fun _ => rfl
  have e : (ls.list.all fun x => rightL D ⟨n, l, m, false, x⟩ && (decide (l = 0) || !aloneB x)) = ls.list.all fun x => (fitV goodB x && (allP D ⟨n, l, m, false, x⟩).all fun y => fitsB D y.tn y.tl y.tm y.v) && (decide (l = 0) || !aloneB x) := by
    congr 1
  rw [e, ← all_three]
  unfold rightL
  rw [allP_eq, hw, List.all_cons, all_flat, List.all_map]
  dsimp only
  rw [hf, list_goodL]
  rfl
theorem flat_right (D : List DefnT) (n : ByteArray) (m : Int) (ls : VL) (h : rightT n.data.toList 0 m = true) : rightL D ⟨n, 0, m, false, .mk 6 0 ⟨#[]⟩ ls .nil⟩ = false := by
  have hi : itemB n 0 m = false := by unfold itemB; simp
  have hn : namedB D n (.mk 6 0 ⟨#[]⟩ ls .nil) = false := by
    unfold namedB
    dsimp only [VT.kd]
    repeat' split
    all_goals simp
  have hf : fitsB D n 0 m (.mk 6 0 ⟨#[]⟩ ls .nil) = false := by
    rw [fits_flat h (by rw [hi]; decide) (by show (6 : Int) ≠ 8; decide) (by show (6 : Int) ≠ 0; decide), hn]
  unfold rightL
  rw [allP_eq, List.all_cons]
  dsimp only
  rw [hf]
  simp
end Go.Proofs.YtcfdfgbobnocnaaGreatDoor
namespace Go.Proofs.YtcfdfgbobnocnaaGreatDoor
open Go.RowKit

theorem spots_flat {α : Type} (f : α → List PlT) : ∀ xs : List α, spotsOf (xs.flatMap f) = xs.flatMap fun x => spotsOf (f x)
  | [] => rfl
  | x :: xs => by
    rw [List.flatMap_cons, List.flatMap_cons, ← spots_flat f xs]
    unfold spotsOf
    rw [List.filter_append]
def varsP (D : List DefnT) (p : PlT) : List ByteArray := (spotsOf (allP D p)).map (·.v.ss)
theorem map_flat {α β γ : Type} (f : α → List β) (g : β → γ) : ∀ xs : List α, (xs.flatMap f).map g = xs.flatMap fun x => (f x).map g
  | [] => rfl
  | x :: xs => by rw [List.flatMap_cons, List.flatMap_cons, List.map_append, map_flat f g xs]
theorem varsP_eq (D : List DefnT) (p : PlT) : varsP D p = (if (p.v.kd == 8) = true then [p.v.ss] else []) ++ (withinL D p).flatMap (varsP D) := by
  have e : spotsOf (p :: (withinL D p).flatMap (allP D)) = (if (p.v.kd == 8) = true then [p] else []) ++ spotsOf ((withinL D p).flatMap (allP D)) := by
    unfold spotsOf
    rw [List.filter_cons]
    split <;> rfl
  unfold varsP
  rw [allP_eq, e, spots_flat, List.map_append, map_flat]
  congr 1
  split <;> rfl
theorem varsP_8 {D : List DefnT} {p : PlT} (h : p.v.kd = 8) : varsP D p = p.v.ss :: (withinL D p).flatMap (varsP D) := by
  rw [varsP_eq, if_pos (by rw [h]; rfl)]
  rfl
theorem varsP_n {D : List DefnT} {p : PlT} (h : p.v.kd ≠ 8) : varsP D p = (withinL D p).flatMap (varsP D) := by
  rw [varsP_eq, if_neg (by simpa using h)]
  rfl
theorem allL_list : ∀ l : VL, allL l = l.list.flatMap allV
  | .nil => rfl
  | .cons v t => by rw [allL, VL.list, List.flatMap_cons, allL_list t]
theorem allM_list : ∀ m : VM, allM m = m.list.flatMap fun y => allV y.2
  | .nil => rfl
  | .cons n v t => by rw [allM, VM.list, List.flatMap_cons, allM_list t]
theorem fitM_mem : ∀ {m : VM}, fitM goodB m = true → ∀ y, y ∈ m.list → fitV goodB y.2 = true
  | .nil, _, y, h => by simp [VM.list] at h
  | .cons n v t, hm, y, h => by
    rw [fitM, Bool.and_eq_true, Bool.and_eq_true] at hm
    rw [VM.list] at h
    rcases List.mem_cons.1 h with rfl | h
    · exact hm.1.2
    · exact fitM_mem hm.2 y h
theorem flat_congr {α β : Type} {f g : α → List β} : ∀ {xs : List α}, (∀ x, x ∈ xs → f x = g x) → xs.flatMap f = xs.flatMap g
  | [], _ => rfl
  | x :: xs, h => by rw [List.flatMap_cons, List.flatMap_cons, h x (by simp), flat_congr fun y hy => h y (by simp [hy])]
theorem mems_all {ps : List VarT} : ∀ {ms : List (ByteArray × VT)}, knownB ps ms = true → memsL ps ms = ms.map fun x => ⟨(paramD ps x.1).1.tn, (paramD ps x.1).1.tl, (paramD ps x.1).1.tm, (paramD ps x.1).1.has, x.2⟩
  | [], _ => rfl
  | x :: t, h => by
    unfold knownB at h
    rw [List.all_cons, Bool.and_eq_true] at h
    have := mems_all (ps := ps) (ms := t) h.2
    unfold memsL at this ⊢
    rw [List.flatMap_cons, this, if_pos h.1, List.map_cons, List.singleton_append]
theorem named_map {D : List DefnT} {n : ByteArray} {v : VT} (h : namedB D n v = true) (h7 : v.kd = 7) : knownB (findD D n).1.params v.ms.list = true := by
  unfold namedB at h
  rw [h7] at h
  repeat' split at h
  all_goals first | (exfalso; simp at h; done) | skip
  simp only [Bool.and_eq_true] at h
  exact h.2.2.1
theorem named_list {D : List DefnT} {n : ByteArray} {v : VT} (h6 : v.kd = 6) : namedB D n v = false := by
  unfold namedB
  rw [h6]
  repeat' split
  all_goals simp
abbrev fitP (D : List DefnT) (x : PlT) : Bool := fitsB D x.tn x.tl x.tm x.v
theorem vars_places (D : List DefnT) : ∀ (N : Nat) (p : PlT), msr p ≤ N → fitV goodB p.v = true → (allP D p).all (fitP D) = true → varsP D p = allV p.v
  | N, p, hN, hg, hf => by
    have IH : ∀ x, x ∈ withinL D p → fitV goodB x.v = true → varsP D x = allV x.v := fun x hx hgx => by
      have h1 := within_msr hx
      rw [allP_eq, List.all_cons, Bool.and_eq_true, all_flat] at hf
      have h2 := List.all_eq_true.1 hf.2 x hx
      cases N with
      | zero => omega
      | succ N => exact vars_places D N x (by omega) hgx h2
    have hf0 : fitP D p = true := by
      rw [allP_eq, List.all_cons, Bool.and_eq_true] at hf
      exact hf.1
    clear hf
    obtain ⟨tn, tl, tm, hs, k, n, s, l, m⟩ := p
    by_cases h8 : k = 8
    · subst h8
      rw [varsP_8 (p := ⟨tn, tl, tm, hs, .mk 8 n s l m⟩) rfl, within_none (Or.inl rfl)]
      show _ = allV (.mk 8 n s l m)
      rw [allV, if_pos rfl]
      rfl
    rw [varsP_n (p := ⟨tn, tl, tm, hs, .mk k n s l m⟩) h8]
    show _ = allV (.mk k n s l m)
    have hg : fitV goodB (.mk k n s l m) = true := hg
    rw [allV, if_neg h8]
    by_cases h0 : k = 0
    · subst h0
      rw [within_none (Or.inr rfl)]
      rfl
    have hgv := hg
    rw [fitV] at hg
    simp only [Bool.and_eq_true] at hg
    obtain ⟨⟨hs0, hgl⟩, hgm⟩ := hg
    have hf0 : fitsB D tn tl tm (.mk k n s l m) = true := hf0
    have hr : rightT tn.data.toList tl tm = true := by
      cases hr : rightT tn.data.toList tl tm
      · unfold fitsB at hf0
        rw [hr] at hf0
        cases hf0
      · rfl
    by_cases hi : itemB tn tl tm = true
    · by_cases h6 : k = 6
      · subst h6
        have hw : withinL D ⟨tn, tl, tm, hs, .mk 6 n s l m⟩ = elemsL tn (tl - 1) (tm / 2) l.list := by
          exact within_els hi rfl
        rw [hw] at IH ⊢
        rw [if_pos rfl, allL_list]
        unfold elemsL at IH ⊢
        rw [List.flatMap_map]
        refine flat_congr fun x hx => ?_
        rw [fitL_all] at hgl
        exact IH _ (List.mem_map.2 ⟨x, hx, rfl⟩) (List.all_eq_true.1 hgl x hx)
      · have hw : withinL D ⟨tn, tl, tm, hs, .mk k n s l m⟩ = [⟨tn, tl - 1, tm / 2, false, .mk k n s l m⟩] := by
          exact within_one (by show ¬ (k = 8 ∨ k = 0); omega) hi h6
        have := IH ⟨tn, tl - 1, tm / 2, false, .mk k n s l m⟩ (by rw [hw]; simp) hgv
        rw [hw, List.flatMap_cons, List.flatMap_nil, List.append_nil, this]
        show allV (.mk k n s l m) = _
        rw [allV, if_neg h8]
    · rw [fits_flat (v := .mk k n s l m) hr hi h8 h0] at hf0
      by_cases h7 : k = 7
      · subst h7
        have hk := named_map hf0 rfl
        have hw : withinL D ⟨tn, tl, tm, hs, .mk 7 n s l m⟩ = memsL (findD D tn).1.params m.list := by
          exact within_map hi rfl
        have hk : knownB (findD D tn).1.params m.list = true := hk
        rw [hw, mems_all hk] at IH ⊢
        rw [if_neg (by decide), if_pos rfl, allM_list, List.flatMap_map]
        refine flat_congr fun x hx => ?_
        exact IH _ (List.mem_map.2 ⟨x, hx, rfl⟩) (fitM_mem hgm x hx)
      · by_cases h6 : k = 6
        · rw [named_list (v := .mk k n s l m) h6] at hf0
          cases hf0
        · rw [within_leaf (v := .mk k n s l m) hi h7, if_neg h6, if_neg h7]
          rfl
theorem right_vars {D : List DefnT} {p : PlT} (h : rightL D p = true) : varsP D p = allV p.v := by
  unfold rightL at h
  rw [Bool.and_eq_true] at h
  exact vars_places D _ p (Nat.le_refl _) h.1 h.2
end Go.Proofs.YtcfdfgbobnocnaaGreatDoor
namespace Go.Proofs.YtcfdfgbobnocnaaGreatDoor
open Go.RowKit
attribute [local go_sem] Oper.semAt_some

theorem leaf_ts {w : World} {P : Nat → Prop} (k n : Int) (s : ByteArray) (hs : s.size ≤ 9223372036854775807) : TS w P (encV (.mk k n s .nil .nil)) [.int .i64 k, .int .i64 n, .string s, .slice none 0 0, .slice none 0 0] :=
  vp_ts _ _ _ _ _ _ (by unfold VP; exact ⟨rfl, rfl, rfl, hs, ⟨none, 0, rfl, by simp [VL.len], by unfold LP; trivial⟩, none, 0, rfl, by simp [VM.len], by unfold MP; trivial⟩)
theorem leaf_vp {w : World} {P : Nat → Prop} (k n : Int) (s : ByteArray) (hs : s.size ≤ 9223372036854775807) : VP w P (.mk k n s .nil .nil) (.int .i64 k) (.int .i64 n) (.string s) (.slice none 0 0) (.slice none 0 0) := by
  unfold VP; exact ⟨rfl, rfl, rfl, hs, ⟨none, 0, rfl, by simp [VL.len], by unfold LP; trivial⟩, none, 0, rfl, by simp [VM.len], by unfold MP; trivial⟩
theorem list_ts {w : World} {P : Nat → Prop} {g : Nat} {t : TypeId} (k n : Int) (s : ByteArray) (hs : s.size ≤ 9223372036854775807) (hg : P g) (h : w.heap[g]? = some (.cells #[.int .i64 k, .int .i64 n, .string s, .slice none 0 0, .slice none 0 0] t (0, 0))) :
    TS w P (encV (.mk 6 0 ⟨#[]⟩ (.cons (.mk k n s .nil .nil) .nil) .nil)) [.int .i64 6, .int .i64 0, .string ⟨#[]⟩, .slice (some ⟨g, 0, none⟩) 1 1, .slice none 0 0] :=
  vp_ts _ _ _ _ _ _ (by
    have hl : LP w P (.cons (.mk k n s .nil .nil) .nil) (some ⟨g, 0, none⟩) 0 := by
      unfold LP
      refine ⟨⟨g, 0, _, _, _, _, _, rfl, hg, ?_, leaf_vp k n s hs⟩, by unfold LP; trivial⟩
      exact five_box h
    unfold VP
    exact ⟨rfl, rfl, rfl, by decide, ⟨some ⟨g, 0, none⟩, 1, rfl, by simp [VL.len], hl⟩, none, 0, rfl, by simp [VM.len], by unfold MP; trivial⟩)
def S00 : SchT := ⟨[], ⟨#[]⟩, ⟨#[]⟩⟩
theorem sch0_ts {w : World} {P : Nat → Prop} : TS w P (encSch S00) [.slice none 0 0, .string ⟨#[]⟩, .string ⟨#[]⟩] := by
  unfold encSch S00
  simp only [TS, TP]
  exact ⟨_, _, rfl, ⟨none, 0, rfl, by simp [rowOf, TrL.len], by simp [rowOf, RowT]⟩, _, _, rfl, ⟨rfl, Nat.zero_le _⟩, _, _, rfl, ⟨rfl, Nat.zero_le _⟩, rfl⟩
def nInt : ByteArray := ⟨#[73, 110, 116]⟩
def vOne : VT := .mk 2 1 ⟨#[]⟩ .nil .nil
def vLst : VT := .mk 6 0 ⟨#[]⟩ (.cons vOne .nil) .nil
def vVar : VT := .mk 8 0 ⟨#[97]⟩ .nil .nil
def vVars : VT := .mk 6 0 ⟨#[]⟩ (.cons vVar .nil) .nil
theorem all1 : allP [] ⟨nInt, 2, 0, false, vOne⟩ = [⟨nInt, 2, 0, false, vOne⟩, ⟨nInt, 1, 0, false, vOne⟩, ⟨nInt, 0, 0, false, vOne⟩] := by kernel_rfl
theorem all2 : allP [] ⟨nInt, 2, 0, false, vLst⟩ = [⟨nInt, 2, 0, false, vLst⟩, ⟨nInt, 1, 0, false, vOne⟩, ⟨nInt, 0, 0, false, vOne⟩] := by kernel_rfl
theorem all3 : allP [] ⟨nInt, 2, 0, true, vVars⟩ = [⟨nInt, 2, 0, true, vVars⟩, ⟨nInt, 1, 0, false, vVar⟩] := by kernel_rfl
theorem right1 : rightL [] ⟨nInt, 2, 0, false, vOne⟩ = true := by kernel_rfl
theorem right2 : rightL [] ⟨nInt, 2, 0, false, vLst⟩ = false := by kernel_rfl
theorem slim00 : SlimS S00 := ⟨by simp [S00], fun d h => by simp [S00] at h⟩
theorem sp_awake (w : World) (g : Nat) (t : TypeId) (hg : w.heap[g]? = some (.cells #[.int .i64 8, .int .i64 0, .string ⟨#[97]⟩, .slice none 0 0, .slice none 0 0] t (0, 0))) :
    Calls Tryz.prog 11 #[.agg #[.slice none 0 0, .string ⟨#[]⟩, .string ⟨#[]⟩], .agg #[.string nInt, .int .i64 2, .int .i64 0], .bool true, .agg #[.int .i64 6, .int .i64 0, .string ⟨#[]⟩, .slice (some ⟨g, 0, none⟩) 1 1, .slice none 0 0]] w fun e w' => ∃ b c, e = .returned (.slice (some ⟨b, 0, none⟩) 1 c) ∧ (w'.cell? ⟨b, 0, none⟩ = some (.string ⟨#[97]⟩) ∧ w'.cell? ⟨b, 2, none⟩ = some (.int .i64 1) ∧ w'.cell? ⟨b, 4, none⟩ = some (.bool false)) ∧ Below w.heap.size w w' := by
  have hlt := (Array.getElem?_eq_some_iff.1 hg).1
  refine (spots_any S00 nInt 2 0 true vVars _ _ _ _ _ _ _ w w.heap.size (Nat.le_refl _) slim00 _ rfl [nInt] (by decide) ?_ ?_ (by decide) sch0_ts (list_ts (g := g) 8 0 ⟨#[97]⟩ (by decide) hlt hg)).mono ?_
  · show ∀ x, x ∈ allP [] ⟨nInt, 2, 0, true, vVars⟩ → _
    rw [all3]
    intro x hx
    simp at hx
    rcases hx with rfl | rfl <;> exact ⟨by simp, by decide, by decide⟩
  · show (allP [] ⟨nInt, 2, 0, true, vVars⟩).length ≤ _
    rw [all3]
    decide
  · rintro e w' ⟨V, rfl, ⟨b, hb, ho⟩, hlow⟩
    change w'.ownsRow b 42 5 V (spotsOf (allP [] ⟨nInt, 2, 0, true, vVars⟩)).length ((spotsOf (allP [] ⟨nInt, 2, 0, true, vVars⟩)).flatMap spotC) at ho
    rw [all3] at ho
    obtain ⟨b', c, rfl⟩ := ownsRow_succ (k := 0) ho
    have hc := ho.cells (g := b') rfl
    refine ⟨b', c, rfl, ⟨?_, ?_, ?_⟩, hlow⟩
    · have := hc 0 _ rfl
      rw [add_at] at this
      simpa [vVar, VT.ss] using this
    · have := hc 2 _ rfl
      rw [add_at] at this
      simpa using this
    · have := hc 4 _ rfl
      rw [add_at] at this
      simpa using this
theorem ri_one (w : World) (hw : Laid5 w) :
    Calls Tryz.prog 13 #[.agg #[.slice none 0 0, .string ⟨#[]⟩, .string ⟨#[]⟩], .agg #[.string nInt, .int .i64 2, .int .i64 0], .agg #[.int .i64 2, .int .i64 1, .string ⟨#[]⟩, .slice none 0 0, .slice none 0 0]] w fun e w' => e = .returned (.bool true) ∧ Below w.heap.size w w' := by
  refine (right_any S00 nInt 2 0 vOne _ _ _ _ _ _ _ w w.heap.size (Nat.le_refl _) hw slim00 (by decide) _ rfl [nInt] (by decide) ?_ ?_ (by decide) sch0_ts (leaf_ts 2 1 ⟨#[]⟩ (by decide))).mono ?_
  · show ∀ x, x ∈ allP [] ⟨nInt, 2, 0, false, vOne⟩ → _
    rw [all1]
    intro x hx
    simp at hx
    rcases hx with rfl | rfl | rfl <;> exact ⟨by simp, by decide, by decide⟩
  · show (allP [] ⟨nInt, 2, 0, false, vOne⟩).length ≤ _
    rw [all1]
    decide
  · rintro e w' ⟨rfl, hb⟩
    exact ⟨by rw [show S00.defs = [] from rfl, right1], hb⟩
theorem ri_lst (w : World) (hw : Laid5 w) (g : Nat) (t : TypeId) (hg : w.heap[g]? = some (.cells #[.int .i64 2, .int .i64 1, .string ⟨#[]⟩, .slice none 0 0, .slice none 0 0] t (0, 0))) :
    Calls Tryz.prog 13 #[.agg #[.slice none 0 0, .string ⟨#[]⟩, .string ⟨#[]⟩], .agg #[.string nInt, .int .i64 2, .int .i64 0], .agg #[.int .i64 6, .int .i64 0, .string ⟨#[]⟩, .slice (some ⟨g, 0, none⟩) 1 1, .slice none 0 0]] w fun e w' => e = .returned (.bool false) ∧ Below w.heap.size w w' := by
  have hlt := (Array.getElem?_eq_some_iff.1 hg).1
  refine (right_any S00 nInt 2 0 vLst _ _ _ _ _ _ _ w w.heap.size (Nat.le_refl _) hw slim00 (by decide) _ rfl [nInt] (by decide) ?_ ?_ (by decide) sch0_ts (list_ts (g := g) 2 1 ⟨#[]⟩ (by decide) hlt hg)).mono ?_
  · show ∀ x, x ∈ allP [] ⟨nInt, 2, 0, false, vLst⟩ → _
    rw [all2]
    intro x hx
    simp at hx
    rcases hx with rfl | rfl | rfl <;> exact ⟨by simp, by decide, by decide⟩
  · show (allP [] ⟨nInt, 2, 0, false, vLst⟩).length ≤ _
    rw [all2]
    decide
  · rintro e w' ⟨rfl, hb⟩
    exact ⟨by rw [show S00.defs = [] from rfl, right2], hb⟩
set_option maxRecDepth 100000 in
set_option maxHeartbeats 8000000 in
theorem awake_any (w : World) (hw : Laid5 w) : Calls Tryz.prog 9 #[] w fun e w' => e = .returned (.bool true) ∧ Below w.heap.size w w' := by
  have HW := Lib.hid hw
  clear hw
  go_enter Tryz.func9, Tryz.ntmps9
  go_wp2_with fail
  have h0 : (((w.alloc (.cells #[.string ⟨#[73, 110, 116]⟩, .int .i64 2, .int .i64 0] 26)).alloc (.cells #[.int .i64 2, .int .i64 1, .string ⟨#[]⟩, .slice none 0 0, .slice none 0 0] 30)).alloc (.cells #[.int .i64 8, .int .i64 0, .string ⟨#[97]⟩, .slice none 0 0, .slice none 0 0] 30)).heap[w.heap.size]? = some (.cells #[.string ⟨#[73, 110, 116]⟩, .int .i64 2, .int .i64 0] 26 (0, 0)) := by
    rw [Below.heap_alloc _ _ _ (by simp; omega), Below.heap_alloc _ _ _ (by simp)]; exact heap_alloc_new _ _
  have h1 : (((w.alloc (.cells #[.string ⟨#[73, 110, 116]⟩, .int .i64 2, .int .i64 0] 26)).alloc (.cells #[.int .i64 2, .int .i64 1, .string ⟨#[]⟩, .slice none 0 0, .slice none 0 0] 30)).alloc (.cells #[.int .i64 8, .int .i64 0, .string ⟨#[97]⟩, .slice none 0 0, .slice none 0 0] 30)).heap[w.heap.size + 1]? = some (.cells #[.int .i64 2, .int .i64 1, .string ⟨#[]⟩, .slice none 0 0, .slice none 0 0] 30 (0, 0)) := by
    rw [Below.heap_alloc _ _ _ (by simp)]; exact heap_two _ _ _
  have h2 : (((w.alloc (.cells #[.string ⟨#[73, 110, 116]⟩, .int .i64 2, .int .i64 0] 26)).alloc (.cells #[.int .i64 2, .int .i64 1, .string ⟨#[]⟩, .slice none 0 0, .slice none 0 0] 30)).alloc (.cells #[.int .i64 8, .int .i64 0, .string ⟨#[97]⟩, .slice none 0 0, .slice none 0 0] 30)).heap[w.heap.size + 1 + 1]? = some (.cells #[.int .i64 8, .int .i64 0, .string ⟨#[97]⟩, .slice none 0 0, .slice none 0 0] 30 (0, 0)) := by
    have := heap_two (w.alloc (.cells #[.string ⟨#[73, 110, 116]⟩, .int .i64 2, .int .i64 0] 26)) (.cells #[.int .i64 2, .int .i64 1, .string ⟨#[]⟩, .slice none 0 0, .slice none 0 0] 30) (.cells #[.int .i64 8, .int .i64 0, .string ⟨#[97]⟩, .slice none 0 0, .slice none 0 0] 30)
    simpa using this
  have hb1 : Below w.heap.size w (((w.alloc (.cells #[.string ⟨#[73, 110, 116]⟩, .int .i64 2, .int .i64 0] 26)).alloc (.cells #[.int .i64 2, .int .i64 1, .string ⟨#[]⟩, .slice none 0 0, .slice none 0 0] 30)).alloc (.cells #[.int .i64 8, .int .i64 0, .string ⟨#[97]⟩, .slice none 0 0, .slice none 0 0] 30)) := (two_below w _ _).alloc (by simp; omega) _
  generalize ((w.alloc (.cells #[.string ⟨#[73, 110, 116]⟩, .int .i64 2, .int .i64 0] 26)).alloc (.cells #[.int .i64 2, .int .i64 1, .string ⟨#[]⟩, .slice none 0 0, .slice none 0 0] 30)).alloc (.cells #[.int .i64 8, .int .i64 0, .string ⟨#[97]⟩, .slice none 0 0, .slice none 0 0] 30) = w1 at h0 h1 h2 hb1 ⊢
  refine (sp_awake w1 (w.heap.size + 1 + 1) _ h2).mono ?_
  rintro e w2 ⟨b, c, rfl, ⟨p0, p2, p4⟩, hb2⟩
  have B2 := Lib.hid (hb1.trans (hb2.mono hb1.size))
  have H0 := Lib.hid ((hb2.block _ (Array.getElem?_eq_some_iff.1 h0).1).trans h0)
  have H1 := Lib.hid ((hb2.block _ (Array.getElem?_eq_some_iff.1 h1).1).trans h1)
  have HP := Lib.hid (And.intro p0 (And.intro p2 p4))
  clear h0 h1 h2 hb1 hb2 p0 p2 p4
  generalize w.heap.size + 1 + 1 = gv
  generalize w.heap.size + 1 = g1 at H1 ⊢
  generalize hg0 : w.heap.size = g0 at H0 ⊢
  have HG0 := Lib.hid hg0
  clear hg0
  obtain ⟨x0, x1, x2⟩ := three_cells H0.out
  obtain ⟨y0, y1, y2, y3, y4⟩ := five_box H1.out
  go_wp2_with fail
  refine (ri_one w2 (HW.out.below B2.out)).mono ?_
  rintro e w3 ⟨rfl, hb3⟩
  have B3 := Lib.hid (B2.out.trans (hb3.mono B2.out.size))
  have H0' := Lib.hid ((hb3.block _ (Array.getElem?_eq_some_iff.1 H0.out).1).trans H0.out)
  have H1' := Lib.hid ((hb3.block _ (Array.getElem?_eq_some_iff.1 H1.out).1).trans H1.out)
  have hbl := World.block_lt_of_cell? w2 _ HP.out.1
  have HP' := Lib.hid (And.intro ((hb3.cell (p := ⟨b, 0, none⟩) hbl).trans HP.out.1) (And.intro ((hb3.cell (p := ⟨b, 2, none⟩) hbl).trans HP.out.2.1) ((hb3.cell (p := ⟨b, 4, none⟩) hbl).trans HP.out.2.2)))
  clear x0 x1 x2 y0 y1 y2 y3 y4 hb3 hbl H0 H1 HP
  obtain ⟨x0, x1, x2⟩ := three_cells H0'.out
  obtain ⟨y0, y1, y2, y3, y4⟩ := five_box H1'.out
  go_wp2_with fail
  have h5 := heap_alloc_new w3 (.cells #[.int .i64 2, .int .i64 1, .string ⟨#[]⟩, .slice none 0 0, .slice none 0 0] 30)
  have hb4 := dbelow_new w3 (.cells #[.int .i64 2, .int .i64 1, .string ⟨#[]⟩, .slice none 0 0, .slice none 0 0] 30)
  refine (ri_lst _ (HW.out.below (B3.out.trans (hb4.mono B3.out.size))) w3.heap.size _ h5).mono ?_
  rintro e w5 ⟨rfl, hb5⟩
  have B5 := Lib.hid ((B3.out.trans (hb4.mono B3.out.size)).trans (hb5.mono (Nat.le_trans B3.out.size hb4.size)))
  have hb35 := hb4.trans (hb5.mono hb4.size)
  have hbl := World.block_lt_of_cell? w3 _ HP'.out.1
  have p0 := (hb35.cell (p := ⟨b, 0, none⟩) hbl).trans HP'.out.1
  have p2 := (hb35.cell (p := ⟨b, 2, none⟩) hbl).trans HP'.out.2.1
  have p4 := (hb35.cell (p := ⟨b, 4, none⟩) hbl).trans HP'.out.2.2
  clear x0 x1 x2 y0 y1 y2 y3 y4 h5 hb4 hb5 hb35 hbl H0' H1' HP'
  go_wp2_with fail
  go_ret
  exact ⟨rfl, B5.out⟩
end Go.Proofs.YtcfdfgbobnocnaaGreatDoor
