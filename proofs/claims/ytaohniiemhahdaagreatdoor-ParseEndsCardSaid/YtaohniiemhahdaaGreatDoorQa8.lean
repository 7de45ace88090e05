/- Plain mathematics of values: whether a value is good, level by level; how deep it is; its variables. -/
import Derived.Test.YtaohniiemhahdaaGreatDoorQa1
import Derived.Test.YtaohniiemhahdaaGreatDoorQa3
import Derived.Test.YtaohniiemhahdaaGreatDoorQa2
import Derived.Lib.ItoaNum
import Derived.Lib.ParseIntB
import Derived.Shelf.Strconv.ParseIntPublic10
import Derived.Shelf.Strconv.Itoa4
import Derived.Lib.LaidTab
import Derived.Lib.SmallJoins
import Derived.Lib.AtoiErrMem
import Derived.Test.YtaohniiemhahdaaGreatDoorQa5
namespace Go.Proofs.YtaohniiemhahdaaGreatDoor
def nullL : List UInt8 := [110, 117, 108, 108]
def trueL : List UInt8 := [116, 114, 117, 101]
def falseL : List UInt8 := [102, 97, 108, 115, 101]
def enumB (l : List UInt8) : Bool := nameB l && !(l == nullL) && !(l == trueL) && !(l == falseL)
/-- What digits spell; with a sign. -/
def digN (l : List UInt8) : Nat := l.foldl (fun a b => a * 10 + (b.toNat - 48)) 0
def intN : List UInt8 → Int
  | [] => 0
  | b :: t => if b = 45 then -(digN t : Int) else (digN (b :: t) : Int)
def fits64 (z : Int) : Bool := decide (-9223372036854775808 ≤ z ∧ z ≤ 9223372036854775807)
/-- A number that no Int is. -/
def numB (l : List UInt8) : Bool := kindL l == 4 || (kindL l == 3 && !fits64 (intN l))
/-- A value by itself, without names and what stands within. -/
def soundB (k n : Int) (s : List UInt8) (ll ml : Nat) : Bool :=
  if k = 0 then n == 0 && s.isEmpty && ll == 0 && ml == 0
  else if k = 1 then (n == 0 || n == 1) && s.isEmpty && ll == 0 && ml == 0
  else if k = 2 then s.isEmpty && ll == 0 && ml == 0
  else if k = 3 then n == 0 && numB s && ll == 0 && ml == 0
  else if k = 4 then n == 0 && goodB s && ll == 0 && ml == 0
  else if k = 5 then n == 0 && enumB s && ll == 0 && ml == 0
  else if k = 6 then n == 0 && s.isEmpty && ml == 0
  else if k = 7 then n == 0 && s.isEmpty && ll == 0
  else if k = 8 then n == 0 && nameB s && ll == 0 && ml == 0
  else false
def VL.app : VL → VL → VL
  | .nil, r => r
  | .cons v t, r => .cons v (t.app r)
def VM.vals : VM → VL
  | .nil => .nil
  | .cons _ v t => .cons v t.vals
theorem VL.app_nil : ∀ l : VL, l.app .nil = l
  | .nil => rfl
  | .cons v t => by rw [VL.app, VL.app_nil t]
theorem VL.len_app : ∀ l r : VL, (l.app r).len = l.len + r.len
  | .nil, r => by rw [VL.app, VL.len]; omega
  | .cons v t, r => by rw [VL.app, VL.len, VL.len, VL.len_app t r]; omega
theorem VM.len_vals : ∀ m : VM, m.vals.len = m.len
  | .nil => rfl
  | .cons _ _ t => by rw [VM.vals, VL.len, VM.len, VM.len_vals t]
theorem VM.get_vals : ∀ {m : VM} {j : Nat} {nm : ByteArray} {v : VT}, m.get j = some (nm, v) → m.vals.get j = some v
  | .nil, _, _, _, h => by simp [VM.get] at h
  | .cons x u t, 0, nm, v, h => by
    have : x = nm ∧ u = v := by simpa [VM.get] using h
    rw [VM.vals, VL.get, this.2]
  | .cons x u t, j + 1, nm, v, h => by
    rw [VM.vals, VL.get]; exact VM.get_vals (m := t) h
/-- What stands in a value, by its kind. -/
def VT.kids : VT → VL
  | .mk k _ _ l m => if k = 6 then l else if k = 7 then m.vals else .nil
mutual
/-- Is the value good, with names of which p holds? -/
def fitV (p : List UInt8 → Bool) : VT → Bool
  | .mk k n s l m => soundB k n s.data.toList l.len m.len && fitL p l && fitM p m
def fitL (p : List UInt8 → Bool) : VL → Bool
  | .nil => true
  | .cons v t => fitV p v && fitL p t
def fitM (p : List UInt8 → Bool) : VM → Bool
  | .nil => true
  | .cons nm v t => p nm.data.toList && fitV p v && fitM p t
end
def namesB (p : List UInt8 → Bool) : VM → Bool
  | .nil => true
  | .cons nm _ t => p nm.data.toList && namesB p t
/-- A value by itself, with its names. -/
def checkV (p : List UInt8 → Bool) : VT → Bool
  | .mk k n s l m => soundB k n s.data.toList l.len m.len && namesB p m
theorem fitM_vals (p : List UInt8 → Bool) : ∀ m : VM, fitM p m = (namesB p m && fitL p m.vals)
  | .nil => rfl
  | .cons nm v t => by
    rw [fitM, namesB, VM.vals, fitL, fitM_vals p t]
    cases p nm.data.toList <;> cases fitV p v <;> simp
theorem VL.nil_of_len {l : VL} (h : l.len = 0) : l = .nil := by cases l with
  | nil => rfl
  | cons _ _ => rw [VL.len] at h; omega
theorem VM.nil_of_len {l : VM} (h : l.len = 0) : l = .nil := by cases l with
  | nil => rfl
  | cons _ _ _ => rw [VM.len] at h; omega
theorem sound_l {k n : Int} {s : List UInt8} {ll ml : Nat} (h : soundB k n s ll ml = true) (hk : k ≠ 6) : ll = 0 := by
  unfold soundB at h
  repeat' split at h
  all_goals first | contradiction | (simp only [Bool.and_eq_true, beq_iff_eq] at h; omega)
theorem sound_m {k n : Int} {s : List UInt8} {ll ml : Nat} (h : soundB k n s ll ml = true) (hk : k ≠ 7) : ml = 0 := by
  unfold soundB at h
  repeat' split at h
  all_goals first | contradiction | (simp only [Bool.and_eq_true, beq_iff_eq] at h; omega)
theorem fit_kids (p : List UInt8 → Bool) (v : VT) : fitV p v = (checkV p v && fitL p v.kids) := by
  obtain ⟨k, n, s, l, m⟩ := v
  rw [fitV, checkV, fitM_vals, VT.kids]
  cases hs : soundB k n s.data.toList l.len m.len with
  | false => simp
  | true =>
    by_cases h6 : k = 6
    · have hm := VM.nil_of_len (sound_m hs (by omega))
      subst hm
      rw [if_pos h6]; simp [namesB, VM.vals, fitL]
    · have hl := VL.nil_of_len (sound_l hs h6)
      subst hl
      rw [if_neg h6]
      by_cases h7 : k = 7
      · rw [if_pos h7]; simp [fitL]
      · have hm := VM.nil_of_len (sound_m hs h7)
        subst hm
        rw [if_neg h7]; simp [namesB, VM.vals, fitL]
def checkL (p : List UInt8 → Bool) : VL → Bool
  | .nil => true
  | .cons v t => checkV p v && checkL p t
def kidsL : VL → VL
  | .nil => .nil
  | .cons v t => v.kids.app (kidsL t)
theorem fitL_app (p : List UInt8 → Bool) : ∀ l r : VL, fitL p (l.app r) = (fitL p l && fitL p r)
  | .nil, r => by rw [VL.app, fitL]; simp
  | .cons v t, r => by rw [VL.app, fitL, fitL, fitL_app p t r, Bool.and_assoc]
theorem fit_level (p : List UInt8 → Bool) : ∀ l : VL, fitL p l = (checkL p l && fitL p (kidsL l))
  | .nil => rfl
  | .cons v t => by
    rw [fitL, fit_kids, fit_level p t, checkL, kidsL, fitL_app]
    cases checkV p v <;> cases checkL p t <;> simp
theorem sizeL_app : ∀ l r : VL, sizeL (l.app r) = sizeL l + sizeL r
  | .nil, r => by rw [VL.app, sizeL]; omega
  | .cons v t, r => by rw [VL.app, sizeL, sizeL, sizeL_app t r]; omega
theorem sizeL_vals : ∀ m : VM, sizeL m.vals ≤ sizeM m
  | .nil => by rw [VM.vals, sizeL, sizeM]; omega
  | .cons nm v t => by rw [VM.vals, sizeL, sizeM]; have := sizeL_vals t; omega
theorem size_kids (v : VT) : sizeL v.kids + 1 ≤ sizeV v := by
  obtain ⟨k, n, s, l, m⟩ := v
  rw [VT.kids, sizeV]
  have := sizeL_vals m
  split
  · omega
  · split
    · omega
    · rw [sizeL]; omega
theorem size_level : ∀ l : VL, sizeL (kidsL l) + l.len ≤ sizeL l
  | .nil => by rw [kidsL, sizeL, VL.len]; omega
  | .cons v t => by
    rw [kidsL, sizeL, sizeL_app, VL.len]
    have := size_level t
    have := size_kids v
    omega
theorem len_size : ∀ l : VL, l.len ≤ sizeL l := fun l => by have := size_level l; omega
/-- The first j of a level. -/
def kidsTo : VL → Nat → VL
  | _, 0 => .nil
  | .nil, _ + 1 => .nil
  | .cons v t, j + 1 => v.kids.app (kidsTo t j)
def checkTo (p : List UInt8 → Bool) : VL → Nat → Bool
  | _, 0 => true
  | .nil, _ + 1 => true
  | .cons v t, j + 1 => checkV p v && checkTo p t j
theorem kidsTo_zero (l : VL) : kidsTo l 0 = .nil := by cases l <;> rfl
theorem checkTo_zero (p : List UInt8 → Bool) (l : VL) : checkTo p l 0 = true := by cases l <;> rfl
theorem VL.app_assoc : ∀ a b c : VL, (a.app b).app c = a.app (b.app c)
  | .nil, b, c => rfl
  | .cons v t, b, c => by rw [VL.app, VL.app, VL.app, VL.app_assoc t b c]
theorem kidsTo_next : ∀ {l : VL} {j : Nat} {v : VT}, l.get j = some v → kidsTo l (j + 1) = (kidsTo l j).app v.kids
  | .nil, _, _, h => by simp [VL.get] at h
  | .cons u t, 0, v, h => by
    have : u = v := by simpa [VL.get] using h
    subst this
    show u.kids.app (kidsTo t 0) = VL.nil.app u.kids
    rw [kidsTo_zero, VL.app_nil, VL.app]
  | .cons u t, j + 1, v, h => by
    rw [kidsTo, kidsTo_next (l := t) (j := j) (v := v) h, kidsTo, VL.app_assoc]
theorem checkTo_next (p : List UInt8 → Bool) : ∀ {l : VL} {j : Nat} {v : VT}, l.get j = some v → checkTo p l (j + 1) = (checkTo p l j && checkV p v)
  | .nil, _, _, h => by simp [VL.get] at h
  | .cons u t, 0, v, h => by
    have : u = v := by simpa [VL.get] using h
    subst this
    show (checkV p u && checkTo p t 0) = (true && checkV p u)
    rw [checkTo_zero]; simp
  | .cons u t, j + 1, v, h => by
    rw [checkTo, checkTo_next p (l := t) (j := j) (v := v) h, checkTo, Bool.and_assoc]
theorem kidsTo_all : ∀ l : VL, kidsTo l l.len = kidsL l
  | .nil => rfl
  | .cons v t => by rw [VL.len, kidsTo, kidsTo_all t, kidsL]
theorem checkTo_all (p : List UInt8 → Bool) : ∀ l : VL, checkTo p l l.len = checkL p l
  | .nil => rfl
  | .cons v t => by rw [VL.len, checkTo, checkTo_all p t, checkL]
/-- One that is not good of them makes the level not good. -/
theorem check_no (p : List UInt8 → Bool) : ∀ {l : VL} {j : Nat} {v : VT}, l.get j = some v → checkV p v = false → fitL p l = false
  | .nil, _, _, h, _ => by simp [VL.get] at h
  | .cons u t, 0, v, h, hc => by
    have : u = v := by simpa [VL.get] using h
    rw [fitL, fit_kids, this, hc]; simp
  | .cons u t, j + 1, v, h, hc => by
    rw [fitL, check_no p (l := t) (j := j) h hc]; simp
theorem kidsTo_size : ∀ (l : VL) (j : Nat), sizeL (kidsTo l j) ≤ sizeL l
  | .nil, j => by cases j <;> simp [kidsTo, sizeL]
  | .cons v t, 0 => by rw [kidsTo, sizeL]; omega
  | .cons v t, j + 1 => by
    rw [kidsTo, sizeL_app, sizeL]
    have := kidsTo_size t j
    have := size_kids v
    omega

mutual
/-- How deep. -/
def depV : VT → Nat
  | .mk k _ _ l m => if k = 6 then depL l + 1 else if k = 7 then depM m + 1 else 0
def depL : VL → Nat
  | .nil => 0
  | .cons v t => max (depV v) (depL t)
def depM : VM → Nat
  | .nil => 0
  | .cons _ v t => max (depV v) (depM t)
end
theorem depM_vals : ∀ m : VM, depM m = depL m.vals
  | .nil => rfl
  | .cons _ v t => by rw [depM, VM.vals, depL, depM_vals t]
def depTo : VL → Nat → Nat
  | _, 0 => 0
  | .nil, _ + 1 => 0
  | .cons v t, j + 1 => max (depV v) (depTo t j)
theorem depTo_zero (l : VL) : depTo l 0 = 0 := by cases l <;> rfl
theorem depTo_next : ∀ {l : VL} {j : Nat} {v : VT}, l.get j = some v → depTo l (j + 1) = max (depTo l j) (depV v)
  | .nil, _, _, h => by simp [VL.get] at h
  | .cons u t, 0, v, h => by
    have : u = v := by simpa [VL.get] using h
    subst this
    show max (depV u) (depTo t 0) = max 0 (depV u)
    rw [depTo_zero]; omega
  | .cons u t, j + 1, v, h => by
    rw [depTo, depTo_next (l := t) (j := j) (v := v) h, depTo]; omega
theorem depTo_all : ∀ l : VL, depTo l l.len = depL l
  | .nil => rfl
  | .cons v t => by rw [VL.len, depTo, depTo_all t, depL]
theorem dep_kids (k n : Int) (s : ByteArray) (l : VL) (m : VM) (h : k = 6 ∨ k = 7) : depV (.mk k n s l m) = depL (VT.kids (.mk k n s l m)) + 1 := by
  rw [depV, VT.kids]
  rcases h with h | h
  · rw [if_pos h, if_pos h]
  · rw [if_neg (by omega), if_pos h, if_neg (by omega), if_pos h, depM_vals]
mutual
theorem dep_size : ∀ v : VT, depV v ≤ sizeV v
  | .mk k n s l m => by
    rw [depV, sizeV]
    have := depL_size l
    have := depM_size m
    split
    · omega
    · split <;> omega
theorem depL_size : ∀ l : VL, depL l ≤ sizeL l
  | .nil => by rw [depL]; omega
  | .cons v t => by
    rw [depL, sizeL]
    have := dep_size v
    have := depL_size t
    omega
theorem depM_size : ∀ l : VM, depM l ≤ sizeM l
  | .nil => by rw [depM]; omega
  | .cons nm v t => by
    rw [depM, sizeM]
    have := dep_size v
    have := depM_size t
    omega
end
/- The variables. -/
def hasN (out : List ByteArray) (s : ByteArray) : Bool := out.any fun t => t.data.toList == s.data.toList
theorem hasN_iff {out : List ByteArray} {s : ByteArray} : hasN out s = true ↔ s ∈ out := by
  unfold hasN
  rw [List.any_eq_true]
  constructor
  · rintro ⟨t, h, e⟩
    have : t = s := ByteArray.ext (Array.toList_inj.1 (by simpa using e))
    rwa [← this]
  · intro h
    exact ⟨s, h, by simp⟩
def addN (out : List ByteArray) (s : ByteArray) : List ByteArray := if hasN out s = true then out else out ++ [s]
mutual
def allV : VT → List ByteArray
  | .mk k _ s l m => if k = 8 then [s] else if k = 6 then allL l else if k = 7 then allM m else []
def allL : VL → List ByteArray
  | .nil => []
  | .cons v t => allV v ++ allL t
def allM : VM → List ByteArray
  | .nil => []
  | .cons _ v t => allV v ++ allM t
end
theorem allM_vals : ∀ m : VM, allM m = allL m.vals
  | .nil => rfl
  | .cons _ v t => by rw [allM, VM.vals, allL, allM_vals t]
/-- The variables, behind those that are there. -/
def varsV (v : VT) (out : List ByteArray) : List ByteArray := (allV v).foldl addN out
def varsL (l : VL) (out : List ByteArray) : List ByteArray := (allL l).foldl addN out
theorem all_kids (v : VT) : allV v = (match v with | .mk k _ s _ _ => if k = 8 then [s] else []) ++ allL v.kids := by
  obtain ⟨k, n, s, l, m⟩ := v
  rw [allV, VT.kids]
  by_cases h8 : k = 8
  · rw [if_pos h8, if_neg (by omega), if_neg (by omega)]; simp [h8, allL]
  · rw [if_neg h8]
    simp only [h8, if_false, List.nil_append]
    by_cases h6 : k = 6
    · simp [h6]
    · by_cases h7 : k = 7
      · simp [h7, allM_vals]
      · simp [h6, h7, allL]
def allTo : VL → Nat → List ByteArray
  | _, 0 => []
  | .nil, _ + 1 => []
  | .cons v t, j + 1 => allV v ++ allTo t j
theorem allTo_zero (l : VL) : allTo l 0 = [] := by cases l <;> rfl
theorem allTo_next : ∀ {l : VL} {j : Nat} {v : VT}, l.get j = some v → allTo l (j + 1) = allTo l j ++ allV v
  | .nil, _, _, h => by simp [VL.get] at h
  | .cons u t, 0, v, h => by
    have : u = v := by simpa [VL.get] using h
    subst this
    show allV u ++ allTo t 0 = [] ++ allV u
    rw [allTo_zero]; simp
  | .cons u t, j + 1, v, h => by
    rw [allTo, allTo_next (l := t) (j := j) (v := v) h, allTo, List.append_assoc]
theorem allTo_all : ∀ l : VL, allTo l l.len = allL l
  | .nil => rfl
  | .cons v t => by rw [VL.len, allTo, allTo_all t, allL]
theorem varsL_snoc {l : VL} {j : Nat} {v : VT} (h : l.get j = some v) (out : List ByteArray) : (allTo l (j + 1)).foldl addN out = varsV v ((allTo l j).foldl addN out) := by
  rw [allTo_next h, List.foldl_append, varsV]
theorem adds_len : ∀ (l out : List ByteArray), (l.foldl addN out).length ≤ out.length + l.length
  | [], _ => Nat.le_refl _
  | s :: l, out => by
    rw [List.foldl_cons]
    have := adds_len l (addN out s)
    have : (addN out s).length ≤ out.length + 1 := by unfold addN; split <;> simp
    simp only [List.length_cons]; omega
mutual
theorem all_len : ∀ v : VT, (allV v).length ≤ sizeV v
  | .mk k n s l m => by
    rw [allV, sizeV]
    have := allL_len l
    have := allM_len m
    split
    · simp; omega
    · split
      · omega
      · split
        · omega
        · simp
theorem allL_len : ∀ l : VL, (allL l).length ≤ sizeL l
  | .nil => by simp [allL]
  | .cons v t => by
    rw [allL, sizeL, List.length_append]
    have := all_len v
    have := allL_len t
    omega
theorem allM_len : ∀ l : VM, (allM l).length ≤ sizeM l
  | .nil => by simp [allM]
  | .cons nm v t => by
    rw [allM, sizeM, List.length_append]
    have := all_len v
    have := allM_len t
    omega
end
/- The document's own test of all names. -/
mutual
def namedV (p : List UInt8 → Bool) : VT → Bool
  | .mk _ _ _ l m => namedL p l && namedM p m
def namedL (p : List UInt8 → Bool) : VL → Bool
  | .nil => true
  | .cons v t => namedV p v && namedL p t
def namedM (p : List UInt8 → Bool) : VM → Bool
  | .nil => true
  | .cons nm v t => p nm.data.toList && namedV p v && namedM p t
end
end Go.Proofs.YtaohniiemhahdaaGreatDoor
/- Plain mathematics of numbers as text: what digits spell, which fit into 64 bits, how strconv reads them. -/
namespace Go.Proofs.YtaohniiemhahdaaGreatDoor
/- Digits. -/
theorem digU_bd {b : UInt8} (h : digU b = true) : 48 ≤ b.toNat ∧ b.toNat ≤ 57 := by
  unfold digU digB at h
  have := of_decide_eq_true h
  omega
theorem digU_of {b : UInt8} (h : 48 ≤ b.toNat ∧ b.toNat ≤ 57) : digU b = true := by
  unfold digU digB
  exact decide_eq_true (by omega)
theorem byte_dig {d : Nat} (h : d < 10) : (UInt8.ofNat (48 + d)).toNat = 48 + d := by
  rw [UInt8.toNat_ofNat']; omega
def digA (a : Nat) (l : List UInt8) : Nat := l.foldl (fun a b => a * 10 + (b.toNat - 48)) a
theorem digA_snoc (a : Nat) (l : List UInt8) (b : UInt8) : digA a (l ++ [b]) = digA a l * 10 + (b.toNat - 48) := by
  unfold digA; rw [List.foldl_append]; rfl
theorem digA_mono : ∀ (l : List UInt8) (a : Nat), a ≤ digA a l
  | [], a => Nat.le_refl _
  | b :: l, a => by
    show a ≤ digA (a * 10 + (b.toNat - 48)) l
    have := digA_mono l (a * 10 + (b.toNat - 48))
    omega
theorem dec_props (u : Nat) : (Lib.decDigits u).all digU = true ∧ digN (Lib.decDigits u) = u ∧ Lib.decDigits u ≠ [] ∧ ((Lib.decDigits u).head? = some 48 → u = 0) := by
  induction u using Nat.strongRecOn with
  | ind u ih =>
    rw [Lib.decDigits]
    split
    · rename_i h
      have hb := byte_dig h
      refine ⟨by rw [List.all_cons, digU_of (by omega), List.all_nil]; rfl, ?_, by simp, ?_⟩
      · show 0 * 10 + ((UInt8.ofNat (48 + u)).toNat - 48) = u
        omega
      · intro e
        have e : UInt8.ofNat (48 + u) = 48 := by simpa using e
        have := congrArg UInt8.toNat e
        rw [hb] at this
        have h48 : (48 : UInt8).toNat = 48 := rfl
        omega
    · rename_i h
      obtain ⟨h1, h2, h3, h4⟩ := ih (u / 10) (by omega)
      have hb := byte_dig (d := u % 10) (by omega)
      refine ⟨?_, ?_, by simp, ?_⟩
      · rw [List.all_append, h1, List.all_cons, digU_of (by omega), List.all_nil]; rfl
      · show digA 0 _ = u
        rw [digA_snoc]
        have : digA 0 (Lib.decDigits (u / 10)) = u / 10 := h2
        rw [this, hb]; omega
      · intro e
        have e' : (Lib.decDigits (u / 10)).head? = some 48 := by
          cases hd : Lib.decDigits (u / 10) with
          | nil => exact absurd hd h3
          | cons x t => rw [hd] at e; simpa using e
        have := h4 e'
        omega
theorem minus_toNat : (45 : UInt8).toNat = 45 := rfl
theorem dig_not_minus {b : UInt8} (h : digU b = true) : b ≠ 45 := by
  intro e; subst e; have := digU_bd h; rw [minus_toNat] at this; omega
theorem int_digits {l : List UInt8} (h : l.all digU = true) : intN l = (digN l : Int) := by
  cases l with
  | nil => rfl
  | cons b t =>
    rw [List.all_cons, Bool.and_eq_true] at h
    show (if b = 45 then -(digN t : Int) else (digN (b :: t) : Int)) = _
    rw [if_neg (dig_not_minus h.1)]
theorem int_minus (l : List UInt8) : intN (45 :: l) = -(digN l : Int) := by
  show (if (45 : UInt8) = 45 then -(digN l : Int) else (digN (45 :: l) : Int)) = _
  rw [if_pos rfl]
/- Numbers of digits alone. -/
theorem run_all {l : List UInt8} (h : l.all digU = true) : runL l = l.length := by
  induction l with
  | nil => rfl
  | cons b t ih =>
    rw [List.all_cons, Bool.and_eq_true] at h
    unfold runL at ih ⊢
    rw [List.takeWhile_cons, if_pos h.1, List.length_cons, List.length_cons, ih h.2]
theorem all_run {l : List UInt8} (h : runL l = l.length) : l.all digU = true := by
  induction l with
  | nil => rfl
  | cons b t ih =>
    unfold runL at ih h
    rw [List.takeWhile_cons] at h
    split at h
    · rename_i hb
      rw [List.all_cons, hb, ih (by simpa using h)]; rfl
    · simp at h
theorem whole_digits {l : List UInt8} (h : l.all digU = true) (h0 : l.head? = some 48 → l.length = 1) : wholeL l = l.length := by
  cases l with
  | nil => rfl
  | cons b t =>
    show (if (b == 48) = true then 1 else runL (b :: t)) = _
    by_cases hb : b = 48
    · subst hb
      have := h0 rfl
      simp [this]
    · rw [if_neg (by simpa using hb), run_all h]
theorem kind_of {l : List UInt8} {m : Nat} (hm : minusL l = m) (h : (l.drop m).all digU = true) (h1 : l.drop m ≠ []) (h0 : (l.drop m).head? = some 48 → (l.drop m).length = 1) : kindL l = 3 := by
  have hw := whole_digits h h0
  have hlen : 0 < (l.drop m).length := List.length_pos_iff.2 h1
  have hml : m + (l.drop m).length = l.length := by rw [List.length_drop] at hlen ⊢; omega
  have hd : l.drop (m + (l.drop m).length) = [] := by rw [hml]; simp
  have hn : numeralL l = (l.length, 3) := by
    unfold numeralL
    rw [hm, hw, if_neg (by omega), hd]
    have hf : fracL [] = 0 := rfl
    have hx : expoL [] = 0 := rfl
    rw [hf, Nat.add_zero, hd, hx, Nat.add_zero, hml]
    simp
  have hN : numberL l = (l.length, 3) := by
    unfold numberL
    rw [hn]
    simp only [List.drop_length, behindB]
    rw [if_neg (by omega), if_neg (by simp)]
  unfold kindL
  rw [hN, if_neg (by simp)]
theorem kind_itoa (n : Int) : kindL (Lib.itoa n) = 3 := by
  unfold Lib.itoa
  split
  · obtain ⟨h1, h2, h3, h4⟩ := dec_props n.natAbs
    refine kind_of (m := 1) (by simp [minusL]) h1 h3 (fun e => ?_)
    have := h4 e
    omega
  · obtain ⟨h1, h2, h3, h4⟩ := dec_props n.toNat
    refine kind_of (m := 0) ?_ h1 h3 (fun e => ?_)
    · cases hd : Lib.decDigits n.toNat with
      | nil => rfl
      | cons b t =>
        rw [hd, List.all_cons, Bool.and_eq_true] at h1
        show (if (b == 45) = true then 1 else 0) = 0
        rw [if_neg (by simpa using dig_not_minus h1.1)]
    · have := h4 e
      rw [List.drop_zero, this, Lib.decDigits]
      simp
/-- What a number of digits alone is. -/
theorem kind_digits {l : List UInt8} (h : kindL l = 3) : ∃ m, minusL l = m ∧ (l.drop m).all digU = true ∧ l.drop m ≠ [] := by
  unfold kindL at h
  split at h
  · omega
  · rename_i hlt
    unfold numberL at h hlt
    split at h
    · simp at h
    · rename_i h0
      rw [if_neg h0] at hlt
      split at h
      · simp at h
      · rename_i hb
        rw [if_neg hb] at hlt
        refine ⟨minusL l, rfl, ?_⟩
        by_cases hw : wholeL (l.drop (minusL l)) = 0
        · exact absurd (by unfold numeralL; rw [if_pos hw]) h0
        · unfold numeralL at h hlt
          rw [if_neg hw] at h hlt
          simp only at h hlt
          split at h
          · rename_i hfx
            obtain ⟨hf1, hf2⟩ := hfx
            rw [hf1, Nat.add_zero] at hf2
            rw [hf1, Nat.add_zero, hf2, Nat.add_zero] at hlt
            have hwl := wholeL_le (l.drop (minusL l))
            rw [List.length_drop] at hwl
            have hwe : wholeL (l.drop (minusL l)) = (l.drop (minusL l)).length := by rw [List.length_drop]; omega
            generalize l.drop (minusL l) = r at hw hwe
            cases r with
            | nil => exact absurd rfl hw
            | cons b t =>
              refine ⟨?_, by simp⟩
              by_cases hb : b = 48
              · subst hb
                have : wholeL ((48 : UInt8) :: t) = 1 := rfl
                rw [this] at hwe
                have ht : t = [] := List.eq_nil_of_length_eq_zero (by rw [List.length_cons] at hwe; omega)
                subst ht; rfl
              · have : wholeL (b :: t) = runL (b :: t) := by
                  show (if (b == 48) = true then 1 else runL (b :: t)) = _
                  rw [if_neg (by simpa using hb)]
                exact all_run (by rw [← this, hwe])
          · simp at h
/-- strconv's reading of such digits. -/
theorem parseM (l : List UInt8) : ∀ (a : Nat), a ≤ 18446744073709551615 → l.all digU = true → Lib.parseUintM 18446744073709551615 a l = if digA a l ≤ 18446744073709551615 then .ok (digA a l) else .range := by
  induction l with
  | nil => intro a ha _; show Lib.NumEnd.ok a = _; rw [show digA a [] = a from rfl, if_pos ha]
  | cons b t ih =>
    intro a ha h
    rw [List.all_cons, Bool.and_eq_true] at h
    have hd := digU_bd h.1
    have hm : digA a (b :: t) = digA (a * 10 + (b.toNat - 48)) t := rfl
    have hmono := digA_mono t (a * 10 + (b.toNat - 48))
    unfold Lib.parseUintM
    rw [if_pos hd, hm]
    split
    · rw [if_neg (by omega)]
    · split
      · rw [if_neg (by omega)]
      · exact ih _ (by omega) h.2
theorem parse_cons (c : UInt8) (r : List UInt8) : Lib.parseIntB 64 (c :: r) = (match Lib.parseUintB 64 (if c.toNat = 43 ∨ c.toNat = 45 then r else c :: r) with
    | Lib.NumEnd.syntax => Lib.NumEnd.syntax
    | .range => .range
    | .ok u => if ¬ c.toNat = 45 ∧ 2 ^ (64 - 1) ≤ u then .range else if c.toNat = 45 ∧ 2 ^ (64 - 1) < u then .range else .ok (if c.toNat = 45 then -(u : Int) else u)) := rfl
theorem parse_mag {r : List UInt8} (hn : r ≠ []) (hd : r.all digU = true) : Lib.parseUintB 64 r = if digA 0 r ≤ 18446744073709551615 then .ok (digA 0 r) else .range := by
  unfold Lib.parseUintB
  rw [if_neg hn]
  exact parseM r 0 (by omega) hd
theorem parse_int {l : List UInt8} (h : kindL l = 3) : Lib.parseIntB 64 l = if fits64 (intN l) = true then .ok (intN l) else .range := by
  obtain ⟨m, hm, hd, hn⟩ := kind_digits h
  cases l with
  | nil => rw [List.drop_nil] at hn; exact absurd rfl hn
  | cons c r =>
    by_cases hc : c = 45
    · subst hc
      have : m = 1 := hm.symm
      subst this
      rw [show (45 :: r).drop 1 = r from rfl] at hd hn
      have hi : intN (45 :: r) = -(digA 0 r : Int) := int_minus r
      rw [hi, parse_cons, if_pos (Or.inr minus_toNat), parse_mag hn hd]
      by_cases h1 : digA 0 r ≤ 18446744073709551615
      · rw [if_pos h1]
        simp only [minus_toNat]
        by_cases h2 : 9223372036854775808 < digA 0 r
        · have hf : fits64 (-(digA 0 r : Int)) = false := by unfold fits64; exact decide_eq_false (by omega)
          rw [hf, if_neg (by simp), if_pos ⟨trivial, by omega⟩, if_neg (by simp)]
        · have hf : fits64 (-(digA 0 r : Int)) = true := by unfold fits64; exact decide_eq_true (by omega)
          rw [hf, if_neg (by simp), if_neg (by omega), if_pos trivial, if_pos rfl]
      · have hf : fits64 (-(digA 0 r : Int)) = false := by unfold fits64; exact decide_eq_false (by omega)
        rw [if_neg h1, hf, if_neg (by simp)]
    · have hm0 : m = 0 := by rw [← hm]; show (if (c == 45) = true then 1 else 0) = 0; rw [if_neg (by simpa using hc)]
      subst hm0
      rw [List.drop_zero] at hd
      have hcd : digU c = true := by rw [List.all_cons, Bool.and_eq_true] at hd; exact hd.1
      have hcb := digU_bd hcd
      rw [int_digits hd, parse_cons, if_neg (by omega), parse_mag (by simp) hd]
      have hD : digN (c :: r) = digA 0 (c :: r) := rfl
      rw [hD]
      have hc45 : ¬ c.toNat = 45 := by omega
      by_cases h1 : digA 0 (c :: r) ≤ 18446744073709551615
      · rw [if_pos h1]
        simp only
        by_cases h2 : 9223372036854775808 ≤ digA 0 (c :: r)
        · have hf : fits64 (digA 0 (c :: r) : Int) = false := by unfold fits64; exact decide_eq_false (by omega)
          rw [hf, if_pos ⟨hc45, by omega⟩, if_neg (by simp)]
        · have hf : fits64 (digA 0 (c :: r) : Int) = true := by unfold fits64; exact decide_eq_true (by omega)
          rw [hf, if_neg (by omega), if_neg (by omega), if_pos rfl, if_neg hc45]
      · have hf : fits64 (digA 0 (c :: r) : Int) = false := by unfold fits64; exact decide_eq_false (by omega)
        rw [if_neg h1, hf, if_neg (by simp)]
end Go.Proofs.YtaohniiemhahdaaGreatDoor
/- The library's strconv.ParseInt and FormatInt at base 10, laid over this translation by hand; what the laws keep of the listed variables. -/
namespace Go.Proofs.YtaohniiemhahdaaGreatDoor
open Go.Shelf Go.RowKit Go.Sort
def pIntRen : Go.Shelf.Ren := ⟨fun | 129 => 219 | 171 => 228 | 174 => 147 | 205 => 227 | 243 => 232 | 245 => 183 | 246 => 173 | 247 => 182 | 279 => 210 | 280 => 211 | 281 => 212 | 282 => 213 | 283 => 200 | 284 => 201 | 285 => 202 | 286 => 203 | 287 => 209 | 316 => 226 | 317 => 218 | 318 => 220 | 319 => 221 | 320 => 222 | 321 => 224 | 322 => 225 | 337 => 230 | 338 => 231 | n => n, fun | 0 => 0 | 2 => 2 | 3 => 3 | 4 => 4 | 5 => 5 | 9 => 9 | 20 => 20 | 21 => 21 | 37 => 94 | 46 => 141 | 51 => 191 | 53 => 194 | 75 => 99 | 80 => 104 | 85 => 176 | 127 => 150 | 143 => 238 | 145 => 240 | 167 => 222 | 168 => 225 | 171 => 214 | 173 => 217 | 175 => 223 | 210 => 235 | 212 => 230 | 213 => 231 | 232 => 241 | 233 => 242 | n => n, fun | 15 => 3 | 16 => 4 | 17 => 2 | 18 => 5 | 19 => 6 | n => n⟩
theorem pIntLays0 : Go.Proofs.Lays.n174 Tryz.prog pIntRen := {
  mixed := by kernel_rfl
  f129 := Tryz.func219.trans (congrArg some (by kernel_rfl))
  f171 := Tryz.func228.trans (congrArg some (by kernel_rfl))
  f174 := Tryz.func147.trans (congrArg some (by kernel_rfl))
  f205 := Tryz.func227.trans (congrArg some (by kernel_rfl))
  f243 := Tryz.func232.trans (congrArg some (by kernel_rfl))
  f245 := Tryz.func183.trans (congrArg some (by kernel_rfl))
  f246 := Tryz.func173.trans (congrArg some (by kernel_rfl))
  f247 := Tryz.func182.trans (congrArg some (by kernel_rfl))
  f279 := Tryz.func210.trans (congrArg some (by kernel_rfl))
  f280 := Tryz.func211.trans (congrArg some (by kernel_rfl))
  f281 := Tryz.func212.trans (congrArg some (by kernel_rfl))
  f282 := Tryz.func213.trans (congrArg some (by kernel_rfl))
  f283 := Tryz.func200.trans (congrArg some (by kernel_rfl))
  f284 := Tryz.func201.trans (congrArg some (by kernel_rfl))
  f285 := Tryz.func202.trans (congrArg some (by kernel_rfl))
  f286 := Tryz.func203.trans (congrArg some (by kernel_rfl))
  f287 := Tryz.func209.trans (congrArg some (by kernel_rfl))
  f316 := Tryz.func226.trans (congrArg some (by kernel_rfl))
  f317 := Tryz.func218.trans (congrArg some (by kernel_rfl))
  f318 := Tryz.func220.trans (congrArg some (by kernel_rfl))
  f319 := Tryz.func221.trans (congrArg some (by kernel_rfl))
  f320 := Tryz.func222.trans (congrArg some (by kernel_rfl))
  f321 := Tryz.func224.trans (congrArg some (by kernel_rfl))
  f322 := Tryz.func225.trans (congrArg some (by kernel_rfl))
  f337 := Tryz.func230.trans (congrArg some (by kernel_rfl))
  f338 := Tryz.func231.trans (congrArg some (by kernel_rfl))
  t0 := Tryz.underlying0
  a0 := Tryz.isAgg0
  z0 := Tryz.sizeOf0
  v0 := Tryz.zeroValue0
  t2 := Tryz.underlying2
  a2 := Tryz.isAgg2
  z2 := Tryz.sizeOf2
  v2 := Tryz.zeroValue2
  t3 := Tryz.underlying3
  a3 := Tryz.isAgg3
  z3 := Tryz.sizeOf3
  v3 := Tryz.zeroValue3
  t4 := Tryz.underlying4
  a4 := Tryz.isAgg4
  z4 := Tryz.sizeOf4
  v4 := Tryz.zeroValue4
  t5 := Tryz.underlying5
  a5 := Tryz.isAgg5
  z5 := Tryz.sizeOf5
  v5 := Tryz.zeroValue5
  t9 := Tryz.underlying9
  a9 := Tryz.isAgg9
  z9 := Tryz.sizeOf9
  v9 := Tryz.zeroValue9
  t20 := Tryz.underlying20
  a20 := Tryz.isAgg20
  z20 := Tryz.sizeOf20
  v20 := Tryz.zeroValue20
  t21 := Tryz.underlying21
  a21 := Tryz.isAgg21
  z21 := Tryz.sizeOf21
  v21 := Tryz.zeroValue21
  t37 := Tryz.underlying94
  a37 := Tryz.isAgg94
  z37 := Tryz.sizeOf94
  v37 := Tryz.zeroValue94
  t46 := Tryz.underlying141
  a46 := Tryz.isAgg141
  z46 := Tryz.sizeOf141
  v46 := Tryz.zeroValue141
  t51 := Tryz.underlying191
  a51 := Tryz.isAgg191
  z51 := Tryz.sizeOf191
  v51 := Tryz.zeroValue191
  t53 := Tryz.underlying194
  a53 := Tryz.isAgg194
  z53 := Tryz.sizeOf194
  v53 := Tryz.zeroValue194
  t75 := Tryz.underlying99
  a75 := Tryz.isAgg99
  z75 := Tryz.sizeOf99
  v75 := Tryz.zeroValue99
  t85 := Tryz.underlying176
  a85 := Tryz.isAgg176
  z85 := Tryz.sizeOf176
  v85 := Tryz.zeroValue176
  t127 := Tryz.underlying150
  a127 := Tryz.isAgg150
  z127 := Tryz.sizeOf150
  v127 := Tryz.zeroValue150
  t143 := Tryz.underlying238
  a143 := Tryz.isAgg238
  z143 := Tryz.sizeOf238
  v143 := Tryz.zeroValue238
  t145 := Tryz.underlying240
  a145 := Tryz.isAgg240
  z145 := Tryz.sizeOf240
  v145 := Tryz.zeroValue240
  t167 := Tryz.underlying222
  a167 := Tryz.isAgg222
  z167 := Tryz.sizeOf222
  v167 := Tryz.zeroValue222
  t168 := Tryz.underlying225
  a168 := Tryz.isAgg225
  z168 := Tryz.sizeOf225
  v168 := Tryz.zeroValue225
  t171 := Tryz.underlying214
  a171 := Tryz.isAgg214
  z171 := Tryz.sizeOf214
  v171 := Tryz.zeroValue214
  t173 := Tryz.underlying217
  a173 := Tryz.isAgg217
  z173 := Tryz.sizeOf217
  v173 := Tryz.zeroValue217
  t175 := Tryz.underlying223
  a175 := Tryz.isAgg223
  z175 := Tryz.sizeOf223
  v175 := Tryz.zeroValue223
  t210 := Tryz.underlying235
  a210 := Tryz.isAgg235
  z210 := Tryz.sizeOf235
  v210 := Tryz.zeroValue235
  t212 := Tryz.underlying230
  a212 := Tryz.isAgg230
  z212 := Tryz.sizeOf230
  v212 := Tryz.zeroValue230
  t213 := Tryz.underlying231
  a213 := Tryz.isAgg231
  z213 := Tryz.sizeOf231
  t232 := Tryz.underlying241
  a232 := Tryz.isAgg241
  z232 := Tryz.sizeOf241
  v232 := Tryz.zeroValue241
  t233 := Tryz.underlying242
  a233 := Tryz.isAgg242
  z233 := Tryz.sizeOf242
  v233 := Tryz.zeroValue242
  g15 := by kernel_rfl
  g16 := by kernel_rfl
  g17 := by kernel_rfl
  g18 := by kernel_rfl
  g19 := by kernel_rfl }
theorem pIntLays1 : Go.Proofs.LaysM.n174 Tryz.prog pIntRen := { pIntLays0 with
  t80 := Tryz.underlying104
  a80 := Tryz.isAgg104
  z80 := Tryz.sizeOf104
  v80 := Tryz.zeroValue104
  i0 := by kernel_rfl
  i2 := by kernel_rfl
  i3 := by kernel_rfl
  i4 := by kernel_rfl
  i5 := by kernel_rfl
  i9 := by kernel_rfl
  i20 := by kernel_rfl
  i21 := by kernel_rfl
  i37 := by kernel_rfl
  i46 := by kernel_rfl
  i51 := by kernel_rfl
  i53 := by kernel_rfl
  i75 := by kernel_rfl
  i80 := by kernel_rfl
  i85 := by kernel_rfl
  i127 := by kernel_rfl
  i143 := by kernel_rfl
  i145 := by kernel_rfl
  i167 := by kernel_rfl
  i168 := by kernel_rfl
  i171 := by kernel_rfl
  i173 := by kernel_rfl
  i175 := by kernel_rfl
  i210 := by kernel_rfl
  i212 := by kernel_rfl
  i232 := by kernel_rfl
  i233 := by kernel_rfl
  m15 := by kernel_rfl
  m16 := by kernel_rfl
  m17 := by kernel_rfl
  m18 := by kernel_rfl
  m19 := by kernel_rfl }
theorem pIntLays : Go.Proofs.LaysC.n174 Tryz.prog pIntRen := { pIntLays1 with
  c0 := by kernel_rfl
  c2 := by kernel_rfl
  c3 := by kernel_rfl
  c4 := by kernel_rfl
  c5 := by kernel_rfl
  c9 := by kernel_rfl
  c20 := by kernel_rfl
  c21 := by kernel_rfl
  c37 := by kernel_rfl
  c46 := by kernel_rfl
  c51 := by kernel_rfl
  c53 := by kernel_rfl
  c75 := by kernel_rfl
  c80 := by kernel_rfl
  c85 := by kernel_rfl
  c127 := by kernel_rfl
  c143 := by kernel_rfl
  c145 := by kernel_rfl
  c167 := by kernel_rfl
  c168 := by kernel_rfl
  c171 := by kernel_rfl
  c173 := by kernel_rfl
  c175 := by kernel_rfl
  c210 := by kernel_rfl
  c212 := by kernel_rfl
  c213 := by kernel_rfl
  c232 := by kernel_rfl
  c233 := by kernel_rfl }
def fIntRen : Go.Shelf.Ren := ⟨fun | 129 => 219 | 173 => 124 | 246 => 173 | 283 => 200 | 284 => 201 | 285 => 202 | 286 => 203 | 317 => 218 | 318 => 220 | 319 => 221 | 320 => 222 | 337 => 230 | 338 => 231 | n => n, fun | 0 => 0 | 2 => 2 | 3 => 3 | 4 => 4 | 5 => 5 | 9 => 9 | 20 => 20 | 37 => 94 | 46 => 141 | 51 => 191 | 53 => 194 | 171 => 214 | 173 => 217 | 212 => 230 | 213 => 231 | 232 => 241 | 233 => 242 | n => n, fun | 17 => 2 | 18 => 5 | 19 => 6 | n => n⟩
theorem fIntLays0 : Go.Proofs.Lays.n173 Tryz.prog fIntRen := {
  mixed := by kernel_rfl
  f129 := Tryz.func219.trans (congrArg some (by kernel_rfl))
  f173 := Tryz.func124.trans (congrArg some (by kernel_rfl))
  f246 := Tryz.func173.trans (congrArg some (by kernel_rfl))
  f283 := Tryz.func200.trans (congrArg some (by kernel_rfl))
  f284 := Tryz.func201.trans (congrArg some (by kernel_rfl))
  f285 := Tryz.func202.trans (congrArg some (by kernel_rfl))
  f286 := Tryz.func203.trans (congrArg some (by kernel_rfl))
  f317 := Tryz.func218.trans (congrArg some (by kernel_rfl))
  f318 := Tryz.func220.trans (congrArg some (by kernel_rfl))
  f319 := Tryz.func221.trans (congrArg some (by kernel_rfl))
  f320 := Tryz.func222.trans (congrArg some (by kernel_rfl))
  f337 := Tryz.func230.trans (congrArg some (by kernel_rfl))
  f338 := Tryz.func231.trans (congrArg some (by kernel_rfl))
  t0 := Tryz.underlying0
  a0 := Tryz.isAgg0
  z0 := Tryz.sizeOf0
  v0 := Tryz.zeroValue0
  t2 := Tryz.underlying2
  a2 := Tryz.isAgg2
  z2 := Tryz.sizeOf2
  v2 := Tryz.zeroValue2
  t3 := Tryz.underlying3
  a3 := Tryz.isAgg3
  z3 := Tryz.sizeOf3
  v3 := Tryz.zeroValue3
  t4 := Tryz.underlying4
  a4 := Tryz.isAgg4
  z4 := Tryz.sizeOf4
  v4 := Tryz.zeroValue4
  t5 := Tryz.underlying5
  a5 := Tryz.isAgg5
  z5 := Tryz.sizeOf5
  v5 := Tryz.zeroValue5
  t9 := Tryz.underlying9
  a9 := Tryz.isAgg9
  z9 := Tryz.sizeOf9
  v9 := Tryz.zeroValue9
  t20 := Tryz.underlying20
  a20 := Tryz.isAgg20
  z20 := Tryz.sizeOf20
  v20 := Tryz.zeroValue20
  t37 := Tryz.underlying94
  a37 := Tryz.isAgg94
  z37 := Tryz.sizeOf94
  v37 := Tryz.zeroValue94
  t46 := Tryz.underlying141
  a46 := Tryz.isAgg141
  z46 := Tryz.sizeOf141
  v46 := Tryz.zeroValue141
  t51 := Tryz.underlying191
  a51 := Tryz.isAgg191
  z51 := Tryz.sizeOf191
  v51 := Tryz.zeroValue191
  t53 := Tryz.underlying194
  a53 := Tryz.isAgg194
  z53 := Tryz.sizeOf194
  v53 := Tryz.zeroValue194
  t171 := Tryz.underlying214
  a171 := Tryz.isAgg214
  z171 := Tryz.sizeOf214
  v171 := Tryz.zeroValue214
  t173 := Tryz.underlying217
  a173 := Tryz.isAgg217
  z173 := Tryz.sizeOf217
  v173 := Tryz.zeroValue217
  t212 := Tryz.underlying230
  a212 := Tryz.isAgg230
  z212 := Tryz.sizeOf230
  v212 := Tryz.zeroValue230
  t213 := Tryz.underlying231
  a213 := Tryz.isAgg231
  z213 := Tryz.sizeOf231
  t232 := Tryz.underlying241
  a232 := Tryz.isAgg241
  z232 := Tryz.sizeOf241
  v232 := Tryz.zeroValue241
  t233 := Tryz.underlying242
  a233 := Tryz.isAgg242
  z233 := Tryz.sizeOf242
  v233 := Tryz.zeroValue242
  g17 := by kernel_rfl
  g18 := by kernel_rfl
  g19 := by kernel_rfl }
theorem fIntLays1 : Go.Proofs.LaysM.n173 Tryz.prog fIntRen := { fIntLays0 with
  i0 := by kernel_rfl
  i2 := by kernel_rfl
  i3 := by kernel_rfl
  i4 := by kernel_rfl
  i5 := by kernel_rfl
  i9 := by kernel_rfl
  i20 := by kernel_rfl
  i37 := by kernel_rfl
  i46 := by kernel_rfl
  i51 := by kernel_rfl
  i53 := by kernel_rfl
  i171 := by kernel_rfl
  i173 := by kernel_rfl
  i212 := by kernel_rfl
  i232 := by kernel_rfl
  i233 := by kernel_rfl
  m17 := by kernel_rfl
  m18 := by kernel_rfl
  m19 := by kernel_rfl }
theorem fIntLays : Go.Proofs.LaysC.n173 Tryz.prog fIntRen := { fIntLays1 with
  c0 := by kernel_rfl
  c2 := by kernel_rfl
  c3 := by kernel_rfl
  c4 := by kernel_rfl
  c5 := by kernel_rfl
  c9 := by kernel_rfl
  c20 := by kernel_rfl
  c37 := by kernel_rfl
  c46 := by kernel_rfl
  c51 := by kernel_rfl
  c53 := by kernel_rfl
  c171 := by kernel_rfl
  c173 := by kernel_rfl
  c212 := by kernel_rfl
  c213 := by kernel_rfl
  c232 := by kernel_rfl
  c233 := by kernel_rfl }
/-- The listed variables that values lean on: the shapes of code points, the library's ErrRange, its table of powers. -/
def Laid5 (w : World) : Prop := TabAt w ∧ (∃ te pe, w.cell? ⟨4, 0, none⟩ = some (.iface te pe)) ∧ Lib.TabIs Tryz.prog w "internal/strconv.uint64pow10" .u64 Lib.pow10Tab
theorem gPow : Tryz.prog.globalNamed "internal/strconv.uint64pow10" = some 2 := by kernel_rfl
theorem lt_cell {w : World} {b o : Nat} {v : Value} (h : w.cell? ⟨b, o, none⟩ = some v) : b < w.heap.size := World.block_lt_of_cell? w _ h
theorem Laid5.below {w w' : World} (h : Laid5 w) (hb : Below w.heap.size w w') : Laid5 w' := by
  obtain ⟨ht, ⟨te, pe, hc⟩, hp⟩ := h
  exact ⟨ht.below hb ht.lt, ⟨te, pe, (hb.cell (p := ⟨4, 0, none⟩) (lt_cell hc)).trans hc⟩, Go.Joins.var_stays gPow hp hb (Nat.le_refl _)⟩
/-- What the walks keep of the world w at which they began. -/
def K5 (w wx : World) : Prop := Laid5 wx ∧ Below w.heap.size w wx
theorem K5.start {w : World} (h : Laid5 w) : K5 w w := ⟨h, Below.refl _ _⟩
theorem K5.next {w wx wy : World} (h : K5 w wx) (hb : Below wx.heap.size wx wy) : K5 w wy := ⟨h.1.below hb, h.2.trans (hb.mono h.2.size)⟩
theorem K5.alloc {w wx : World} (h : K5 w wx) (o : Obj) : K5 w (wx.alloc o) := h.next ((Below.refl _ _).alloc (Nat.le_refl _) o)
/-- ParseInt at base 10 of digits that fit, and of digits that do not. -/
theorem parseInt_yes (s : ByteArray) (hs : s.size ≤ 9000) (hk : kindL s.data.toList = 3) (hf : fits64 (intN s.data.toList) = true) (w : World) :
    Calls Tryz.prog 147 #[.string s, .int .i64 10, .int .i64 64] w fun e w' => e = .returned (.tuple #[.int .i64 (intN s.data.toList), .nilIface]) ∧ Below w.heap.size w w' := by
  have hp := parse_int hk
  rw [if_pos hf] at hp
  refine (Any.strconv_ParseInt_10_at64_ok pIntLays s (by omega) _ hp w).mono ?_
  rintro e w' ⟨he, h | ⟨t, h⟩⟩
  · subst h; exact ⟨he, Below.refl _ _⟩
  · subst h; exact ⟨he, Lib.bytesWorld_below _ _ _⟩
theorem parseInt_no (s : ByteArray) (hs : s.size ≤ 9000) (hk : kindL s.data.toList = 3) (hf : fits64 (intN s.data.toList) = false) (w : World) (hw : Laid5 w) :
    Calls Tryz.prog 147 #[.string s, .int .i64 10, .int .i64 64] w fun e w' => (∃ z N, e = .returned (.tuple #[.int .i64 z, .iface 225 (.pointer (some ⟨N, 0, none⟩))])) ∧ Below w.heap.size w w' := by
  have hp := parse_int hk
  rw [if_neg (by rw [hf]; simp)] at hp
  obtain ⟨_, ⟨te, pe, hc⟩, _⟩ := hw
  refine (Any.strconv_ParseInt_10_at64_range pIntLays s (by omega) hp (.iface te pe) w hc (Or.inr ⟨te, pe, rfl⟩)).mono ?_
  rintro e w' ⟨N, he, _, _, hb⟩
  exact ⟨⟨_, N, he⟩, hb⟩
theorem below_grow (w : World) (n : Nat) (os : Array Obj) : Below w.heap.size w (grow (w.drewN n) os) := by
  refine ⟨rfl, rfl, rfl, ?_, ?_⟩
  · show w.heap.size ≤ (w.heap ++ os).size
    simp
  · intro b hb
    show (w.heap ++ os)[b]? = w.heap[b]?
    rw [Array.getElem?_append_left hb]
/-- FormatInt at base 10. -/
theorem formatInt (n : Int) (h : -9223372036854775808 ≤ n ∧ n ≤ 9223372036854775807) (w : World) (hw : Laid5 w) :
    Calls Tryz.prog 124 #[.int .i64 n, .int .i64 10] w fun e w' => e = .returned (.string ⟨(Lib.itoa n).toArray⟩) ∧ Below w.heap.size w w' := by
  refine (Any.strconv_FormatInt_10 fIntLays.toM n h.1 h.2 w hw.2.2).mono ?_
  rintro e w' ⟨he, k, os, rfl⟩
  exact ⟨he, below_grow _ _ _⟩
end Go.Proofs.YtaohniiemhahdaaGreatDoor
