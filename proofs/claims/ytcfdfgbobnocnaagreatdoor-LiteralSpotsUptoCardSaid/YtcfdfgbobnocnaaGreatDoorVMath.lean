/- Plain mathematics of values: whether a value is good, level by level; how deep it is; its variables. -/
import Derived.Test.YtcfdfgbobnocnaaGreatDoorVSize
import Derived.Test.YtcfdfgbobnocnaaGreatDoorTMath
import Derived.Test.YtcfdfgbobnocnaaGreatDoorCodes
namespace Go.Proofs.YtcfdfgbobnocnaaGreatDoor
def nullL : List UInt8 := [110, 117, 108, 108]
def trueL : List UInt8 := [116, 114, 117, 101]
def falseL : List UInt8 := [102, 97, 108, 115, 101]
def enumB (l : List UInt8) : Bool := nameB l && !(l == nullL) && !(l == trueL) && !(l == falseL)
/-- What digits spell; with a sign. -/
def digN (l : List UInt8) : Nat := l.foldl (fun a b => a * 10 + (b.toNat - 48)) 0
def intN : List UInt8 → Int
  | [] => 0
  | b :: t => if b = 45 then -(digN t : Int) else (digN (b :: t) : Int)
def fits64 (z : Int) : Bool := decide (-9223372036854775808 ≤ z ∧ z ≤ 9223372036854775807)
/-- A number that no Int is. -/
def numB (l : List UInt8) : Bool := kindL l == 4 || (kindL l == 3 && !fits64 (intN l))
/-- A value by itself, without names and what stands within. -/
def soundB (k n : Int) (s : List UInt8) (ll ml : Nat) : Bool :=
  if k = 0 then n == 0 && s.isEmpty && ll == 0 && ml == 0
  else if k = 1 then (n == 0 || n == 1) && s.isEmpty && ll == 0 && ml == 0
  else if k = 2 then s.isEmpty && ll == 0 && ml == 0
  else if k = 3 then n == 0 && numB s && ll == 0 && ml == 0
  else if k = 4 then n == 0 && goodB s && ll == 0 && ml == 0
  else if k = 5 then n == 0 && enumB s && ll == 0 && ml == 0
  else if k = 6 then n == 0 && s.isEmpty && ml == 0
  else if k = 7 then n == 0 && s.isEmpty && ll == 0
  else if k = 8 then n == 0 && nameB s && ll == 0 && ml == 0
  else false
def VL.app : VL → VL → VL
  | .nil, r => r
  | .cons v t, r => .cons v (t.app r)
def VM.vals : VM → VL
  | .nil => .nil
  | .cons _ v t => .cons v t.vals
theorem VL.app_nil : ∀ l : VL, l.app .nil = l
  | .nil => rfl
  | .cons v t => by rw [VL.app, VL.app_nil t]
theorem VL.len_app : ∀ l r : VL, (l.app r).len = l.len + r.len
  | .nil, r => by rw [VL.app, VL.len]; omega
  | .cons v t, r => by rw [VL.app, VL.len, VL.len, VL.len_app t r]; omega
theorem VM.len_vals : ∀ m : VM, m.vals.len = m.len
  | .nil => rfl
  | .cons _ _ t => by rw [VM.vals, VL.len, VM.len, VM.len_vals t]
theorem VM.get_vals : ∀ {m : VM} {j : Nat} {nm : ByteArray} {v : VT}, m.get j = some (nm, v) → m.vals.get j = some v
  | .nil, _, _, _, h => by simp [VM.get] at h
  | .cons x u t, 0, nm, v, h => by
    have : x = nm ∧ u = v := by simpa [VM.get] using h
    rw [VM.vals, VL.get, this.2]
  | .cons x u t, j + 1, nm, v, h => by
    rw [VM.vals, VL.get]; exact VM.get_vals (m := t) h
/-- What stands in a value, by its kind. -/
def VT.kids : VT → VL
  | .mk k _ _ l m => if k = 6 then l else if k = 7 then m.vals else .nil
mutual
/-- Is the value good, with names of which p holds? -/
def fitV (p : List UInt8 → Bool) : VT → Bool
  | .mk k n s l m => soundB k n s.data.toList l.len m.len && fitL p l && fitM p m
def fitL (p : List UInt8 → Bool) : VL → Bool
  | .nil => true
  | .cons v t => fitV p v && fitL p t
def fitM (p : List UInt8 → Bool) : VM → Bool
  | .nil => true
  | .cons nm v t => p nm.data.toList && fitV p v && fitM p t
end
def namesB (p : List UInt8 → Bool) : VM → Bool
  | .nil => true
  | .cons nm _ t => p nm.data.toList && namesB p t
/-- A value by itself, with its names. -/
def checkV (p : List UInt8 → Bool) : VT → Bool
  | .mk k n s l m => soundB k n s.data.toList l.len m.len && namesB p m
theorem fitM_vals (p : List UInt8 → Bool) : ∀ m : VM, fitM p m = (namesB p m && fitL p m.vals)
  | .nil => rfl
  | .cons nm v t => by
    rw [fitM, namesB, VM.vals, fitL, fitM_vals p t]
    cases p nm.data.toList <;> cases fitV p v <;> simp
theorem VL.nil_of_len {l : VL} (h : l.len = 0) : l = .nil := by cases l with
  | nil => rfl
  | cons _ _ => rw [VL.len] at h; omega
theorem VM.nil_of_len {l : VM} (h : l.len = 0) : l = .nil := by cases l with
  | nil => rfl
  | cons _ _ _ => rw [VM.len] at h; omega
theorem sound_l {k n : Int} {s : List UInt8} {ll ml : Nat} (h : soundB k n s ll ml = true) (hk : k ≠ 6) : ll = 0 := by
  unfold soundB at h
  repeat' split at h
  all_goals first | contradiction | (simp only [Bool.and_eq_true, beq_iff_eq] at h; omega)
theorem sound_m {k n : Int} {s : List UInt8} {ll ml : Nat} (h : soundB k n s ll ml = true) (hk : k ≠ 7) : ml = 0 := by
  unfold soundB at h
  repeat' split at h
  all_goals first | contradiction | (simp only [Bool.and_eq_true, beq_iff_eq] at h; omega)
theorem fit_kids (p : List UInt8 → Bool) (v : VT) : fitV p v = (checkV p v && fitL p v.kids) := by
  obtain ⟨k, n, s, l, m⟩ := v
  rw [fitV, checkV, fitM_vals, VT.kids]
  cases hs : soundB k n s.data.toList l.len m.len with
  | false => simp
  | true =>
    by_cases h6 : k = 6
    · have hm := VM.nil_of_len (sound_m hs (by omega))
      subst hm
      rw [if_pos h6]; simp [namesB, VM.vals, fitL]
    · have hl := VL.nil_of_len (sound_l hs h6)
      subst hl
      rw [if_neg h6]
      by_cases h7 : k = 7
      · rw [if_pos h7]; simp [fitL]
      · have hm := VM.nil_of_len (sound_m hs h7)
        subst hm
        rw [if_neg h7]; simp [namesB, VM.vals, fitL]
def checkL (p : List UInt8 → Bool) : VL → Bool
  | .nil => true
  | .cons v t => checkV p v && checkL p t
def kidsL : VL → VL
  | .nil => .nil
  | .cons v t => v.kids.app (kidsL t)
theorem fitL_app (p : List UInt8 → Bool) : ∀ l r : VL, fitL p (l.app r) = (fitL p l && fitL p r)
  | .nil, r => by rw [VL.app, fitL]; simp
  | .cons v t, r => by rw [VL.app, fitL, fitL, fitL_app p t r, Bool.and_assoc]
theorem fit_level (p : List UInt8 → Bool) : ∀ l : VL, fitL p l = (checkL p l && fitL p (kidsL l))
  | .nil => rfl
  | .cons v t => by
    rw [fitL, fit_kids, fit_level p t, checkL, kidsL, fitL_app]
    cases checkV p v <;> cases checkL p t <;> simp
theorem sizeL_app : ∀ l r : VL, sizeL (l.app r) = sizeL l + sizeL r
  | .nil, r => by rw [VL.app, sizeL]; omega
  | .cons v t, r => by rw [VL.app, sizeL, sizeL, sizeL_app t r]; omega
theorem sizeL_vals : ∀ m : VM, sizeL m.vals ≤ sizeM m
  | .nil => by rw [VM.vals, sizeL, sizeM]; omega
  | .cons nm v t => by rw [VM.vals, sizeL, sizeM]; have := sizeL_vals t; omega
theorem size_kids (v : VT) : sizeL v.kids + 1 ≤ sizeV v := by
  obtain ⟨k, n, s, l, m⟩ := v
  rw [VT.kids, sizeV]
  have := sizeL_vals m
  split
  · omega
  · split
    · omega
    · rw [sizeL]; omega
theorem size_level : ∀ l : VL, sizeL (kidsL l) + l.len ≤ sizeL l
  | .nil => by rw [kidsL, sizeL, VL.len]; omega
  | .cons v t => by
    rw [kidsL, sizeL, sizeL_app, VL.len]
    have := size_level t
    have := size_kids v
    omega
theorem len_size : ∀ l : VL, l.len ≤ sizeL l := fun l => by have := size_level l; omega
/-- The first j of a level. -/
def kidsTo : VL → Nat → VL
  | _, 0 => .nil
  | .nil, _ + 1 => .nil
  | .cons v t, j + 1 => v.kids.app (kidsTo t j)
def checkTo (p : List UInt8 → Bool) : VL → Nat → Bool
  | _, 0 => true
  | .nil, _ + 1 => true
  | .cons v t, j + 1 => checkV p v && checkTo p t j
theorem kidsTo_zero (l : VL) : kidsTo l 0 = .nil := by cases l <;> rfl
theorem checkTo_zero (p : List UInt8 → Bool) (l : VL) : checkTo p l 0 = true := by cases l <;> rfl
theorem VL.app_assoc : ∀ a b c : VL, (a.app b).app c = a.app (b.app c)
  | .nil, b, c => rfl
  | .cons v t, b, c => by rw [VL.app, VL.app, VL.app, VL.app_assoc t b c]
theorem kidsTo_next : ∀ {l : VL} {j : Nat} {v : VT}, l.get j = some v → kidsTo l (j + 1) = (kidsTo l j).app v.kids
  | .nil, _, _, h => by simp [VL.get] at h
  | .cons u t, 0, v, h => by
    have : u = v := by simpa [VL.get] using h
    subst this
    show u.kids.app (kidsTo t 0) = VL.nil.app u.kids
    rw [kidsTo_zero, VL.app_nil, VL.app]
  | .cons u t, j + 1, v, h => by
    rw [kidsTo, kidsTo_next (l := t) (j := j) (v := v) h, kidsTo, VL.app_assoc]
theorem checkTo_next (p : List UInt8 → Bool) : ∀ {l : VL} {j : Nat} {v : VT}, l.get j = some v → checkTo p l (j + 1) = (checkTo p l j && checkV p v)
  | .nil, _, _, h => by simp [VL.get] at h
  | .cons u t, 0, v, h => by
    have : u = v := by simpa [VL.get] using h
    subst this
    show (checkV p u && checkTo p t 0) = (true && checkV p u)
    rw [checkTo_zero]; simp
  | .cons u t, j + 1, v, h => by
    rw [checkTo, checkTo_next p (l := t) (j := j) (v := v) h, checkTo, Bool.and_assoc]
theorem kidsTo_all : ∀ l : VL, kidsTo l l.len = kidsL l
  | .nil => rfl
  | .cons v t => by rw [VL.len, kidsTo, kidsTo_all t, kidsL]
theorem checkTo_all (p : List UInt8 → Bool) : ∀ l : VL, checkTo p l l.len = checkL p l
  | .nil => rfl
  | .cons v t => by rw [VL.len, checkTo, checkTo_all p t, checkL]
/-- One that is not good of them makes the level not good. -/
theorem check_no (p : List UInt8 → Bool) : ∀ {l : VL} {j : Nat} {v : VT}, l.get j = some v → checkV p v = false → fitL p l = false
  | .nil, _, _, h, _ => by simp [VL.get] at h
  | .cons u t, 0, v, h, hc => by
    have : u = v := by simpa [VL.get] using h
    rw [fitL, fit_kids, this, hc]; simp
  | .cons u t, j + 1, v, h, hc => by
    rw [fitL, check_no p (l := t) (j := j) h hc]; simp
theorem kidsTo_size : ∀ (l : VL) (j : Nat), sizeL (kidsTo l j) ≤ sizeL l
  | .nil, j => by cases j <;> simp [kidsTo, sizeL]
  | .cons v t, 0 => by rw [kidsTo, sizeL]; omega
  | .cons v t, j + 1 => by
    rw [kidsTo, sizeL_app, sizeL]
    have := kidsTo_size t j
    have := size_kids v
    omega

mutual
/-- How deep. -/
def depV : VT → Nat
  | .mk k _ _ l m => if k = 6 then depL l + 1 else if k = 7 then depM m + 1 else 0
def depL : VL → Nat
  | .nil => 0
  | .cons v t => max (depV v) (depL t)
def depM : VM → Nat
  | .nil => 0
  | .cons _ v t => max (depV v) (depM t)
end
theorem depM_vals : ∀ m : VM, depM m = depL m.vals
  | .nil => rfl
  | .cons _ v t => by rw [depM, VM.vals, depL, depM_vals t]
def depTo : VL → Nat → Nat
  | _, 0 => 0
  | .nil, _ + 1 => 0
  | .cons v t, j + 1 => max (depV v) (depTo t j)
theorem depTo_zero (l : VL) : depTo l 0 = 0 := by cases l <;> rfl
theorem depTo_next : ∀ {l : VL} {j : Nat} {v : VT}, l.get j = some v → depTo l (j + 1) = max (depTo l j) (depV v)
  | .nil, _, _, h => by simp [VL.get] at h
  | .cons u t, 0, v, h => by
    have : u = v := by simpa [VL.get] using h
    subst this
    show max (depV u) (depTo t 0) = max 0 (depV u)
    rw [depTo_zero]; omega
  | .cons u t, j + 1, v, h => by
    rw [depTo, depTo_next (l := t) (j := j) (v := v) h, depTo]; omega
theorem depTo_all : ∀ l : VL, depTo l l.len = depL l
  | .nil => rfl
  | .cons v t => by rw [VL.len, depTo, depTo_all t, depL]
theorem dep_kids (k n : Int) (s : ByteArray) (l : VL) (m : VM) (h : k = 6 ∨ k = 7) : depV (.mk k n s l m) = depL (VT.kids (.mk k n s l m)) + 1 := by
  rw [depV, VT.kids]
  rcases h with h | h
  · rw [if_pos h, if_pos h]
  · rw [if_neg (by omega), if_pos h, if_neg (by omega), if_pos h, depM_vals]
mutual
theorem dep_size : ∀ v : VT, depV v ≤ sizeV v
  | .mk k n s l m => by
    rw [depV, sizeV]
    have := depL_size l
    have := depM_size m
    split
    · omega
    · split <;> omega
theorem depL_size : ∀ l : VL, depL l ≤ sizeL l
  | .nil => by rw [depL]; omega
  | .cons v t => by
    rw [depL, sizeL]
    have := dep_size v
    have := depL_size t
    omega
theorem depM_size : ∀ l : VM, depM l ≤ sizeM l
  | .nil => by rw [depM]; omega
  | .cons nm v t => by
    rw [depM, sizeM]
    have := dep_size v
    have := depM_size t
    omega
end
theorem depL_get : ∀ {l : VL} {j : Nat} {v : VT}, l.get j = some v → depV v ≤ depL l
  | .nil, _, _, h => by simp [VL.get] at h
  | .cons u t, 0, v, h => by
    have : u = v := by simpa [VL.get] using h
    rw [depL, this]; omega
  | .cons u t, j + 1, v, h => by
    rw [depL]; have := depL_get (l := t) h; omega

/- The variables. -/
def hasV (out : List ByteArray) (s : ByteArray) : Bool := out.any fun t => t.data.toList == s.data.toList
theorem hasV_iff {out : List ByteArray} {s : ByteArray} : hasV out s = true ↔ s ∈ out := by
  unfold hasV
  rw [List.any_eq_true]
  constructor
  · rintro ⟨t, h, e⟩
    have : t = s := ByteArray.ext (Array.toList_inj.1 (by simpa using e))
    rwa [← this]
  · intro h
    exact ⟨s, h, by simp⟩
def addV (out : List ByteArray) (s : ByteArray) : List ByteArray := if hasV out s = true then out else out ++ [s]
mutual
def allV : VT → List ByteArray
  | .mk k _ s l m => if k = 8 then [s] else if k = 6 then allL l else if k = 7 then allM m else []
def allL : VL → List ByteArray
  | .nil => []
  | .cons v t => allV v ++ allL t
def allM : VM → List ByteArray
  | .nil => []
  | .cons _ v t => allV v ++ allM t
end
theorem allM_vals : ∀ m : VM, allM m = allL m.vals
  | .nil => rfl
  | .cons _ v t => by rw [allM, VM.vals, allL, allM_vals t]
/-- The variables, behind those that are there. -/
def varsV (v : VT) (out : List ByteArray) : List ByteArray := (allV v).foldl addV out
def varsL (l : VL) (out : List ByteArray) : List ByteArray := (allL l).foldl addV out
theorem all_kids (v : VT) : allV v = (match v with | .mk k _ s _ _ => if k = 8 then [s] else []) ++ allL v.kids := by
  obtain ⟨k, n, s, l, m⟩ := v
  rw [allV, VT.kids]
  by_cases h8 : k = 8
  · rw [if_pos h8, if_neg (by omega), if_neg (by omega)]; simp [h8, allL]
  · rw [if_neg h8]
    simp only [h8, if_false, List.nil_append]
    by_cases h6 : k = 6
    · simp [h6]
    · by_cases h7 : k = 7
      · simp [h7, allM_vals]
      · simp [h6, h7, allL]
def allTo : VL → Nat → List ByteArray
  | _, 0 => []
  | .nil, _ + 1 => []
  | .cons v t, j + 1 => allV v ++ allTo t j
theorem allTo_zero (l : VL) : allTo l 0 = [] := by cases l <;> rfl
theorem allTo_next : ∀ {l : VL} {j : Nat} {v : VT}, l.get j = some v → allTo l (j + 1) = allTo l j ++ allV v
  | .nil, _, _, h => by simp [VL.get] at h
  | .cons u t, 0, v, h => by
    have : u = v := by simpa [VL.get] using h
    subst this
    show allV u ++ allTo t 0 = [] ++ allV u
    rw [allTo_zero]; simp
  | .cons u t, j + 1, v, h => by
    rw [allTo, allTo_next (l := t) (j := j) (v := v) h, allTo, List.append_assoc]
theorem allTo_all : ∀ l : VL, allTo l l.len = allL l
  | .nil => rfl
  | .cons v t => by rw [VL.len, allTo, allTo_all t, allL]
theorem mem_add {out : List ByteArray} {s : ByteArray} : s ∈ addV out s := by
  unfold addV; split
  · exact hasV_iff.1 (by assumption)
  · simp
theorem mem_adds : ∀ {l out : List ByteArray} {s : ByteArray}, s ∈ out → s ∈ l.foldl addV out
  | [], _, _, h => h
  | x :: l, out, s, h => by
    rw [List.foldl_cons]
    refine mem_adds ?_
    unfold addV; split
    · exact h
    · exact List.mem_append_left _ h
/-- What is added of what was added is added. -/
theorem adds_adds : ∀ (l acc out : List ByteArray), (l.foldl addV acc).foldl addV out = l.foldl addV (acc.foldl addV out)
  | [], _, _ => rfl
  | s :: l, acc, out => by
    rw [List.foldl_cons, List.foldl_cons, adds_adds l]
    congr 1
    by_cases h : s ∈ acc
    · have h2 : s ∈ acc.foldl addV out := by
        have : ∀ (l out : List ByteArray), s ∈ l → s ∈ l.foldl addV out := by
          intro l
          induction l with
          | nil => intro _ h; simp at h
          | cons x l ih =>
            intro out h
            rw [List.foldl_cons]
            rcases List.mem_cons.1 h with rfl | h
            · exact mem_adds mem_add
            · exact ih _ h
        exact this _ _ h
      rw [addV, if_pos (hasV_iff.2 h), addV, if_pos (hasV_iff.2 h2)]
    · rw [addV, if_neg (fun e => h (hasV_iff.1 e)), List.foldl_append, List.foldl_cons, List.foldl_nil]
theorem vars_adds (v : VT) (out : List ByteArray) : (varsV v []).foldl addV out = varsV v out := adds_adds _ _ _
theorem varsL_snoc {l : VL} {j : Nat} {v : VT} (h : l.get j = some v) (out : List ByteArray) : (allTo l (j + 1)).foldl addV out = varsV v ((allTo l j).foldl addV out) := by
  rw [allTo_next h, List.foldl_append, varsV]
theorem addsV_len : ∀ (l out : List ByteArray), (l.foldl addV out).length ≤ out.length + l.length
  | [], _ => Nat.le_refl _
  | s :: l, out => by
    rw [List.foldl_cons]
    have := addsV_len l (addV out s)
    have : (addV out s).length ≤ out.length + 1 := by unfold addV; split <;> simp
    simp only [List.length_cons]; omega
mutual
theorem all_len : ∀ v : VT, (allV v).length ≤ sizeV v
  | .mk k n s l m => by
    rw [allV, sizeV]
    have := allL_len l
    have := allM_len m
    split
    · simp; omega
    · split
      · omega
      · split
        · omega
        · simp
theorem allL_len : ∀ l : VL, (allL l).length ≤ sizeL l
  | .nil => by simp [allL]
  | .cons v t => by
    rw [allL, sizeL, List.length_append]
    have := all_len v
    have := allL_len t
    omega
theorem allM_len : ∀ l : VM, (allM l).length ≤ sizeM l
  | .nil => by simp [allM]
  | .cons nm v t => by
    rw [allM, sizeM, List.length_append]
    have := all_len v
    have := allM_len t
    omega
end
/- The document's own test of all names. -/
mutual
def namedV (p : List UInt8 → Bool) : VT → Bool
  | .mk _ _ _ l m => namedL p l && namedM p m
def namedL (p : List UInt8 → Bool) : VL → Bool
  | .nil => true
  | .cons v t => namedV p v && namedL p t
def namedM (p : List UInt8 → Bool) : VM → Bool
  | .nil => true
  | .cons nm v t => p nm.data.toList && namedV p v && namedM p t
end
mutual
theorem fit_two {p q : List UInt8 → Bool} (h : ∀ l, p l = true → q l = true) : ∀ v : VT, fitV p v = (fitV q v && namedV p v)
  | .mk k n s l m => by
    rw [fitV, fitV, namedV, fitL_two h l, fitM_two h m]
    cases soundB k n s.data.toList l.len m.len <;> cases fitL q l <;> cases namedL p l <;> simp
theorem fitL_two {p q : List UInt8 → Bool} (h : ∀ l, p l = true → q l = true) : ∀ l : VL, fitL p l = (fitL q l && namedL p l)
  | .nil => rfl
  | .cons v t => by
    rw [fitL, fitL, namedL, fit_two h v, fitL_two h t]
    cases fitV q v <;> cases namedV p v <;> simp
theorem fitM_two {p q : List UInt8 → Bool} (h : ∀ l, p l = true → q l = true) : ∀ l : VM, fitM p l = (fitM q l && namedM p l)
  | .nil => rfl
  | .cons nm v t => by
    rw [fitM, fitM, namedM, fit_two h v, fitM_two h t]
    cases hp : p nm.data.toList with
    | false => simp
    | true => rw [h _ hp]; cases fitV q v <;> cases namedV p v <;> simp
end
end Go.Proofs.YtcfdfgbobnocnaaGreatDoor
