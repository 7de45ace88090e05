/- Plain mathematics of values: whether a value is good, level by level; how deep it is; its variables. -/
import Derived.Lib.ItoaNum
import Derived.Lib.ParseIntB
import Derived.Shelf.Strconv.ParseIntPublic10
import Derived.Shelf.Strconv.Itoa4
import Derived.Lib.LaidTab
import Derived.Lib.SmallJoins
import Derived.Lib.AtoiErrMem
import Derived.Test.YtpkmbhnikilihaaGreatDoorQp2
namespace Go.Proofs.YtpkmbhnikilihaaGreatDoor
def nullL : List UInt8 := [110, 117, 108, 108]
def trueL : List UInt8 := [116, 114, 117, 101]
def falseL : List UInt8 := [102, 97, 108, 115, 101]
def enumB (l : List UInt8) : Bool := nameB l && !(l == nullL) && !(l == trueL) && !(l == falseL)
def digN (l : List UInt8) : Nat := l.foldl (fun a b => a * 10 + (b.toNat - 48)) 0
def intN : List UInt8 → Int
 | [] => 0
 | b :: t => if b = 45 then -(digN t : Int) else (digN (b :: t) : Int)
def fits64 (z : Int) : Bool := decide (-9223372036854775808 ≤ z ∧ z ≤ 9223372036854775807)
def numB (l : List UInt8) : Bool := kindL l == 4 || (kindL l == 3 && !fits64 (intN l))
def soundB (k n : Int) (s : List UInt8) (ll ml : Nat) : Bool :=
 if k = 0 then n == 0 && s.isEmpty && ll == 0 && ml == 0
 else if k = 1 then (n == 0 || n == 1) && s.isEmpty && ll == 0 && ml == 0
 else if k = 2 then s.isEmpty && ll == 0 && ml == 0
 else if k = 3 then n == 0 && numB s && ll == 0 && ml == 0
 else if k = 4 then n == 0 && goodB s && ll == 0 && ml == 0
 else if k = 5 then n == 0 && enumB s && ll == 0 && ml == 0
 else if k = 6 then n == 0 && s.isEmpty && ml == 0
 else if k = 7 then n == 0 && s.isEmpty && ll == 0
 else if k = 8 then n == 0 && nameB s && ll == 0 && ml == 0
 else false
def VL.app : VL → VL → VL
 | .nil, r => r
 | .cons v t, r => .cons v (t.app r)
def VM.vals : VM → VL
 | .nil => .nil
 | .cons _ v t => .cons v t.vals
theorem VL.app_nil : ∀ l : VL, l.app .nil = l
 | .nil => rfl
 | .cons v t => by rw [VL.app, VL.app_nil t]
theorem VL.len_app : ∀ l r : VL, (l.app r).len = l.len + r.len
 | .nil, r => by rw [VL.app, VL.len]; omega
 | .cons v t, r => by rw [VL.app, VL.len, VL.len, VL.len_app t r]; omega
theorem VM.len_vals : ∀ m : VM, m.vals.len = m.len
 | .nil => rfl
 | .cons _ _ t => by rw [VM.vals, VL.len, VM.len, VM.len_vals t]
theorem VM.get_vals : ∀ {m : VM} {j : Nat} {nm : ByteArray} {v : VT}, m.get j = some (nm, v) → m.vals.get j = some v
 | .nil, _, _, _, h => by simp [VM.get] at h
 | .cons x u t, 0, nm, v, h => by
   have : x = nm ∧ u = v := by simpa [VM.get] using h
   rw [VM.vals, VL.get, this.2]
 | .cons x u t, j + 1, nm, v, h => by
   rw [VM.vals, VL.get]; exact VM.get_vals (m := t) h
def VT.kids : VT → VL
 | .mk k _ _ l m => if k = 6 then l else if k = 7 then m.vals else .nil
mutual
def fitV (p : List UInt8 → Bool) : VT → Bool
 | .mk k n s l m => soundB k n s.data.toList l.len m.len && fitL p l && fitM p m
def fitL (p : List UInt8 → Bool) : VL → Bool
 | .nil => true
 | .cons v t => fitV p v && fitL p t
def fitM (p : List UInt8 → Bool) : VM → Bool
 | .nil => true
 | .cons nm v t => p nm.data.toList && fitV p v && fitM p t
end
def namesB (p : List UInt8 → Bool) : VM → Bool
 | .nil => true
 | .cons nm _ t => p nm.data.toList && namesB p t
def checkV (p : List UInt8 → Bool) : VT → Bool
 | .mk k n s l m => soundB k n s.data.toList l.len m.len && namesB p m
theorem fitM_vals (p : List UInt8 → Bool) : ∀ m : VM, fitM p m = (namesB p m && fitL p m.vals)
 | .nil => rfl
 | .cons nm v t => by
   rw [fitM, namesB, VM.vals, fitL, fitM_vals p t]
   cases p nm.data.toList <;> cases fitV p v <;> simp
theorem VL.nil_of_len {l : VL} (h : l.len = 0) : l = .nil := by cases l with
 | nil => rfl
 | cons _ _ => rw [VL.len] at h; omega
theorem VM.nil_of_len {l : VM} (h : l.len = 0) : l = .nil := by cases l with
 | nil => rfl
 | cons _ _ _ => rw [VM.len] at h; omega
theorem sound_l {k n : Int} {s : List UInt8} {ll ml : Nat} (h : soundB k n s ll ml = true) (hk : k ≠ 6) : ll = 0 := by
 unfold soundB at h
 repeat' split at h
 all_goals first | contradiction | (simp only [Bool.and_eq_true, beq_iff_eq] at h; omega)
theorem sound_m {k n : Int} {s : List UInt8} {ll ml : Nat} (h : soundB k n s ll ml = true) (hk : k ≠ 7) : ml = 0 := by
 unfold soundB at h
 repeat' split at h
 all_goals first | contradiction | (simp only [Bool.and_eq_true, beq_iff_eq] at h; omega)
theorem fit_kids (p : List UInt8 → Bool) (v : VT) : fitV p v = (checkV p v && fitL p v.kids) := by
 obtain ⟨k, n, s, l, m⟩ := v
 rw [fitV, checkV, fitM_vals, VT.kids]
 cases hs : soundB k n s.data.toList l.len m.len with
 | false => simp
 | true =>
   by_cases h6 : k = 6
   · have hm := VM.nil_of_len (sound_m hs (by omega))
     subst hm
     rw [if_pos h6]; simp [namesB, VM.vals, fitL]
   · have hl := VL.nil_of_len (sound_l hs h6)
     subst hl
     rw [if_neg h6]
     by_cases h7 : k = 7
     · rw [if_pos h7]; simp [fitL]
     · have hm := VM.nil_of_len (sound_m hs h7)
       subst hm
       rw [if_neg h7]; simp [namesB, VM.vals, fitL]
def checkL (p : List UInt8 → Bool) : VL → Bool
 | .nil => true
 | .cons v t => checkV p v && checkL p t
def kidsL : VL → VL
 | .nil => .nil
 | .cons v t => v.kids.app (kidsL t)
theorem fitL_app (p : List UInt8 → Bool) : ∀ l r : VL, fitL p (l.app r) = (fitL p l && fitL p r)
 | .nil, r => by rw [VL.app, fitL]; simp
 | .cons v t, r => by rw [VL.app, fitL, fitL, fitL_app p t r, Bool.and_assoc]
theorem fit_level (p : List UInt8 → Bool) : ∀ l : VL, fitL p l = (checkL p l && fitL p (kidsL l))
 | .nil => rfl
 | .cons v t => by
   rw [fitL, fit_kids, fit_level p t, checkL, kidsL, fitL_app]
   cases checkV p v <;> cases checkL p t <;> simp
theorem sizeL_app : ∀ l r : VL, sizeL (l.app r) = sizeL l + sizeL r
 | .nil, r => by rw [VL.app, sizeL]; omega
 | .cons v t, r => by rw [VL.app, sizeL, sizeL, sizeL_app t r]; omega
theorem sizeL_vals : ∀ m : VM, sizeL m.vals ≤ sizeM m
 | .nil => by rw [VM.vals, sizeL, sizeM]; omega
 | .cons nm v t => by rw [VM.vals, sizeL, sizeM]; have := sizeL_vals t; omega
theorem size_kids (v : VT) : sizeL v.kids + 1 ≤ sizeV v := by
 obtain ⟨k, n, s, l, m⟩ := v
 rw [VT.kids, sizeV]
 have := sizeL_vals m
 split
 · omega
 · split
   · omega
   · rw [sizeL]; omega
theorem size_level : ∀ l : VL, sizeL (kidsL l) + l.len ≤ sizeL l
 | .nil => by rw [kidsL, sizeL, VL.len]; omega
 | .cons v t => by
   rw [kidsL, sizeL, sizeL_app, VL.len]
   have := size_level t
   have := size_kids v
   omega
theorem len_size : ∀ l : VL, l.len ≤ sizeL l := fun l => by have := size_level l; omega
def kidsTo : VL → Nat → VL
 | _, 0 => .nil
 | .nil, _ + 1 => .nil
 | .cons v t, j + 1 => v.kids.app (kidsTo t j)
def checkTo (p : List UInt8 → Bool) : VL → Nat → Bool
 | _, 0 => true
 | .nil, _ + 1 => true
 | .cons v t, j + 1 => checkV p v && checkTo p t j
theorem kidsTo_zero (l : VL) : kidsTo l 0 = .nil := by cases l <;> rfl
theorem checkTo_zero (p : List UInt8 → Bool) (l : VL) : checkTo p l 0 = true := by cases l <;> rfl
theorem VL.app_assoc : ∀ a b c : VL, (a.app b).app c = a.app (b.app c)
 | .nil, b, c => rfl
 | .cons v t, b, c => by rw [VL.app, VL.app, VL.app, VL.app_assoc t b c]
theorem kidsTo_next : ∀ {l : VL} {j : Nat} {v : VT}, l.get j = some v → kidsTo l (j + 1) = (kidsTo l j).app v.kids
 | .nil, _, _, h => by simp [VL.get] at h
 | .cons u t, 0, v, h => by
   have : u = v := by simpa [VL.get] using h
   subst this
   show u.kids.app (kidsTo t 0) = VL.nil.app u.kids
   rw [kidsTo_zero, VL.app_nil, VL.app]
 | .cons u t, j + 1, v, h => by
   rw [kidsTo, kidsTo_next (l := t) (j := j) (v := v) h, kidsTo, VL.app_assoc]
theorem checkTo_next (p : List UInt8 → Bool) : ∀ {l : VL} {j : Nat} {v : VT}, l.get j = some v → checkTo p l (j + 1) = (checkTo p l j && checkV p v)
 | .nil, _, _, h => by simp [VL.get] at h
 | .cons u t, 0, v, h => by
   have : u = v := by simpa [VL.get] using h
   subst this
   show (checkV p u && checkTo p t 0) = (true && checkV p u)
   rw [checkTo_zero]; simp
 | .cons u t, j + 1, v, h => by
   rw [checkTo, checkTo_next p (l := t) (j := j) (v := v) h, checkTo, Bool.and_assoc]
theorem kidsTo_all : ∀ l : VL, kidsTo l l.len = kidsL l
 | .nil => rfl
 | .cons v t => by rw [VL.len, kidsTo, kidsTo_all t, kidsL]
theorem checkTo_all (p : List UInt8 → Bool) : ∀ l : VL, checkTo p l l.len = checkL p l
 | .nil => rfl
 | .cons v t => by rw [VL.len, checkTo, checkTo_all p t, checkL]
theorem check_no (p : List UInt8 → Bool) : ∀ {l : VL} {j : Nat} {v : VT}, l.get j = some v → checkV p v = false → fitL p l = false
 | .nil, _, _, h, _ => by simp [VL.get] at h
 | .cons u t, 0, v, h, hc => by
   have : u = v := by simpa [VL.get] using h
   rw [fitL, fit_kids, this, hc]; simp
 | .cons u t, j + 1, v, h, hc => by
   rw [fitL, check_no p (l := t) (j := j) h hc]; simp
theorem kidsTo_size : ∀ (l : VL) (j : Nat), sizeL (kidsTo l j) ≤ sizeL l
 | .nil, j => by cases j <;> simp [kidsTo, sizeL]
 | .cons v t, 0 => by rw [kidsTo, sizeL]; omega
 | .cons v t, j + 1 => by
   rw [kidsTo, sizeL_app, sizeL]
   have := kidsTo_size t j
   have := size_kids v
   omega
mutual
def depV : VT → Nat
 | .mk k _ _ l m => if k = 6 then depL l + 1 else if k = 7 then depM m + 1 else 0
def depL : VL → Nat
 | .nil => 0
 | .cons v t => max (depV v) (depL t)
def depM : VM → Nat
 | .nil => 0
 | .cons _ v t => max (depV v) (depM t)
end
theorem depM_vals : ∀ m : VM, depM m = depL m.vals
 | .nil => rfl
 | .cons _ v t => by rw [depM, VM.vals, depL, depM_vals t]
def depTo : VL → Nat → Nat
 | _, 0 => 0
 | .nil, _ + 1 => 0
 | .cons v t, j + 1 => max (depV v) (depTo t j)
theorem depTo_zero (l : VL) : depTo l 0 = 0 := by cases l <;> rfl
theorem depTo_next : ∀ {l : VL} {j : Nat} {v : VT}, l.get j = some v → depTo l (j + 1) = max (depTo l j) (depV v)
 | .nil, _, _, h => by simp [VL.get] at h
 | .cons u t, 0, v, h => by
   have : u = v := by simpa [VL.get] using h
   subst this
   show max (depV u) (depTo t 0) = max 0 (depV u)
   rw [depTo_zero]; omega
 | .cons u t, j + 1, v, h => by
   rw [depTo, depTo_next (l := t) (j := j) (v := v) h, depTo]; omega
theorem depTo_all : ∀ l : VL, depTo l l.len = depL l
 | .nil => rfl
 | .cons v t => by rw [VL.len, depTo, depTo_all t, depL]
theorem dep_kids (k n : Int) (s : ByteArray) (l : VL) (m : VM) (h : k = 6 ∨ k = 7) : depV (.mk k n s l m) = depL (VT.kids (.mk k n s l m)) + 1 := by
 rw [depV, VT.kids]
 rcases h with h | h
 · rw [if_pos h, if_pos h]
 · rw [if_neg (by omega), if_pos h, if_neg (by omega), if_pos h, depM_vals]
mutual
theorem dep_size : ∀ v : VT, depV v ≤ sizeV v
 | .mk k n s l m => by
   rw [depV, sizeV]
   have := depL_size l
   have := depM_size m
   split
   · omega
   · split <;> omega
theorem depL_size : ∀ l : VL, depL l ≤ sizeL l
 | .nil => by rw [depL]; omega
 | .cons v t => by
   rw [depL, sizeL]
   have := dep_size v
   have := depL_size t
   omega
theorem depM_size : ∀ l : VM, depM l ≤ sizeM l
 | .nil => by rw [depM]; omega
 | .cons nm v t => by
   rw [depM, sizeM]
   have := dep_size v
   have := depM_size t
   omega
end
def hasN (out : List ByteArray) (s : ByteArray) : Bool := out.any fun t => t.data.toList == s.data.toList
theorem hasN_iff {out : List ByteArray} {s : ByteArray} : hasN out s = true ↔ s ∈ out := by
 unfold hasN
 rw [List.any_eq_true]
 constructor
 · rintro ⟨t, h, e⟩
   have : t = s := ByteArray.ext (Array.toList_inj.1 (by simpa using e))
   rwa [← this]
 · intro h
   exact ⟨s, h, by simp⟩
def addN (out : List ByteArray) (s : ByteArray) : List ByteArray := if hasN out s = true then out else out ++ [s]
mutual
def allV : VT → List ByteArray
 | .mk k _ s l m => if k = 8 then [s] else if k = 6 then allL l else if k = 7 then allM m else []
def allL : VL → List ByteArray
 | .nil => []
 | .cons v t => allV v ++ allL t
def allM : VM → List ByteArray
 | .nil => []
 | .cons _ v t => allV v ++ allM t
end
theorem allM_vals : ∀ m : VM, allM m = allL m.vals
 | .nil => rfl
 | .cons _ v t => by rw [allM, VM.vals, allL, allM_vals t]
def varsV (v : VT) (out : List ByteArray) : List ByteArray := (allV v).foldl addN out
theorem all_kids (v : VT) : allV v = (match v with | .mk k _ s _ _ => if k = 8 then [s] else []) ++ allL v.kids := by
 obtain ⟨k, n, s, l, m⟩ := v
 rw [allV, VT.kids]
 by_cases h8 : k = 8
 · rw [if_pos h8, if_neg (by omega), if_neg (by omega)]; simp [h8, allL]
 · rw [if_neg h8]
   simp only [h8, if_false, List.nil_append]
   by_cases h6 : k = 6
   · simp [h6]
   · by_cases h7 : k = 7
     · simp [h7, allM_vals]
     · simp [h6, h7, allL]
def allTo : VL → Nat → List ByteArray
 | _, 0 => []
 | .nil, _ + 1 => []
 | .cons v t, j + 1 => allV v ++ allTo t j
theorem allTo_zero (l : VL) : allTo l 0 = [] := by cases l <;> rfl
theorem allTo_next : ∀ {l : VL} {j : Nat} {v : VT}, l.get j = some v → allTo l (j + 1) = allTo l j ++ allV v
 | .nil, _, _, h => by simp [VL.get] at h
 | .cons u t, 0, v, h => by
   have : u = v := by simpa [VL.get] using h
   subst this
   show allV u ++ allTo t 0 = [] ++ allV u
   rw [allTo_zero]; simp
 | .cons u t, j + 1, v, h => by
   rw [allTo, allTo_next (l := t) (j := j) (v := v) h, allTo, List.append_assoc]
theorem allTo_all : ∀ l : VL, allTo l l.len = allL l
 | .nil => rfl
 | .cons v t => by rw [VL.len, allTo, allTo_all t, allL]
theorem varsL_snoc {l : VL} {j : Nat} {v : VT} (h : l.get j = some v) (out : List ByteArray) : (allTo l (j + 1)).foldl addN out = varsV v ((allTo l j).foldl addN out) := by
 rw [allTo_next h, List.foldl_append, varsV]
theorem adds_len : ∀ (l out : List ByteArray), (l.foldl addN out).length ≤ out.length + l.length
 | [], _ => Nat.le_refl _
 | s :: l, out => by
   rw [List.foldl_cons]
   have := adds_len l (addN out s)
   have : (addN out s).length ≤ out.length + 1 := by unfold addN; split <;> simp
   simp only [List.length_cons]; omega
mutual
theorem all_len : ∀ v : VT, (allV v).length ≤ sizeV v
 | .mk k n s l m => by
   rw [allV, sizeV]
   have := allL_len l
   have := allM_len m
   split
   · simp; omega
   · split
     · omega
     · split
       · omega
       · simp
theorem allL_len : ∀ l : VL, (allL l).length ≤ sizeL l
 | .nil => by simp [allL]
 | .cons v t => by
   rw [allL, sizeL, List.length_append]
   have := all_len v
   have := allL_len t
   omega
theorem allM_len : ∀ l : VM, (allM l).length ≤ sizeM l
 | .nil => by simp [allM]
 | .cons nm v t => by
   rw [allM, sizeM, List.length_append]
   have := all_len v
   have := allM_len t
   omega
end
theorem digU_bd {b : UInt8} (h : digU b = true) : 48 ≤ b.toNat ∧ b.toNat ≤ 57 := by
 unfold digU digB at h
 have := of_decide_eq_true h
 omega
theorem digU_of {b : UInt8} (h : 48 ≤ b.toNat ∧ b.toNat ≤ 57) : digU b = true := by
 unfold digU digB
 exact decide_eq_true (by omega)
theorem byte_dig {d : Nat} (h : d < 10) : (UInt8.ofNat (48 + d)).toNat = 48 + d := by
 rw [UInt8.toNat_ofNat']; omega
def digA (a : Nat) (l : List UInt8) : Nat := l.foldl (fun a b => a * 10 + (b.toNat - 48)) a
theorem digA_snoc (a : Nat) (l : List UInt8) (b : UInt8) : digA a (l ++ [b]) = digA a l * 10 + (b.toNat - 48) := by
 unfold digA; rw [List.foldl_append]; rfl
theorem digA_mono : ∀ (l : List UInt8) (a : Nat), a ≤ digA a l
 | [], a => Nat.le_refl _
 | b :: l, a => by
   show a ≤ digA (a * 10 + (b.toNat - 48)) l
   have := digA_mono l (a * 10 + (b.toNat - 48))
   omega
theorem dec_props (u : Nat) : (Lib.decDigits u).all digU = true ∧ digN (Lib.decDigits u) = u ∧ Lib.decDigits u ≠ [] ∧ ((Lib.decDigits u).head? = some 48 → u = 0) := by
 induction u using Nat.strongRecOn with
 | ind u ih =>
   rw [Lib.decDigits]
   split
   · rename_i h
     have hb := byte_dig h
     refine ⟨by rw [List.all_cons, digU_of (by omega), List.all_nil]; rfl, ?_, by simp, ?_⟩
     · show 0 * 10 + ((UInt8.ofNat (48 + u)).toNat - 48) = u
       omega
     · intro e
       have e : UInt8.ofNat (48 + u) = 48 := by simpa using e
       have := congrArg UInt8.toNat e
       rw [hb] at this
       have h48 : (48 : UInt8).toNat = 48 := rfl
       omega
   · rename_i h
     obtain ⟨h1, h2, h3, h4⟩ := ih (u / 10) (by omega)
     have hb := byte_dig (d := u % 10) (by omega)
     refine ⟨?_, ?_, by simp, ?_⟩
     · rw [List.all_append, h1, List.all_cons, digU_of (by omega), List.all_nil]; rfl
     · show digA 0 _ = u
       rw [digA_snoc]
       have : digA 0 (Lib.decDigits (u / 10)) = u / 10 := h2
       rw [this, hb]; omega
     · intro e
       have e' : (Lib.decDigits (u / 10)).head? = some 48 := by
        cases hd : Lib.decDigits (u / 10) with
        | nil => exact absurd hd h3
        | cons x t => rw [hd] at e; simpa using e
       have := h4 e'
       omega
theorem minus_toNat : (45 : UInt8).toNat = 45 := rfl
theorem dig_not_minus {b : UInt8} (h : digU b = true) : b ≠ 45 := by
 intro e; subst e; have := digU_bd h; rw [minus_toNat] at this; omega
theorem int_digits {l : List UInt8} (h : l.all digU = true) : intN l = (digN l : Int) := by
 cases l with
 | nil => rfl
 | cons b t =>
   rw [List.all_cons, Bool.and_eq_true] at h
   show (if b = 45 then -(digN t : Int) else (digN (b :: t) : Int)) = _
   rw [if_neg (dig_not_minus h.1)]
theorem int_minus (l : List UInt8) : intN (45 :: l) = -(digN l : Int) := by
 show (if (45 : UInt8) = 45 then -(digN l : Int) else (digN (45 :: l) : Int)) = _
 rw [if_pos rfl]
theorem int_itoa (n : Int) : intN (Lib.itoa n) = n := by
 unfold Lib.itoa
 split
 · rw [int_minus, (dec_props _).2.1]; omega
 · rw [int_digits (dec_props _).1, (dec_props _).2.1]; omega
theorem run_all {l : List UInt8} (h : l.all digU = true) : runL l = l.length := by
 induction l with
 | nil => rfl
 | cons b t ih =>
   rw [List.all_cons, Bool.and_eq_true] at h
   unfold runL at ih ⊢
   rw [List.takeWhile_cons, if_pos h.1, List.length_cons, List.length_cons, ih h.2]
theorem all_run {l : List UInt8} (h : runL l = l.length) : l.all digU = true := by
 induction l with
 | nil => rfl
 | cons b t ih =>
   unfold runL at ih h
   rw [List.takeWhile_cons] at h
   split at h
   · rename_i hb
     rw [List.all_cons, hb, ih (by simpa using h)]; rfl
   · simp at h
theorem whole_digits {l : List UInt8} (h : l.all digU = true) (h0 : l.head? = some 48 → l.length = 1) : wholeL l = l.length := by
 cases l with
 | nil => rfl
 | cons b t =>
   show (if (b == 48) = true then 1 else runL (b :: t)) = _
   by_cases hb : b = 48
   · subst hb
     have := h0 rfl
     simp [this]
   · rw [if_neg (by simpa using hb), run_all h]
theorem kind_of {l : List UInt8} {m : Nat} (hm : minusL l = m) (h : (l.drop m).all digU = true) (h1 : l.drop m ≠ []) (h0 : (l.drop m).head? = some 48 → (l.drop m).length = 1) : kindL l = 3 := by
 have hw := whole_digits h h0
 have hlen : 0 < (l.drop m).length := List.length_pos_iff.2 h1
 have hml : m + (l.drop m).length = l.length := by rw [List.length_drop] at hlen ⊢; omega
 have hd : l.drop (m + (l.drop m).length) = [] := by rw [hml]; simp
 have hn : nmL l = (l.length, 3) := by
  unfold nmL
  rw [hm, hw, if_neg (by omega), hd]
  have hf : fracL [] = 0 := rfl
  have hx : expoL [] = 0 := rfl
  rw [hf, Nat.add_zero, hd, hx, Nat.add_zero, hml]
  simp
 have hN : nbL l = (l.length, 3) := by
  unfold nbL
  rw [hn]
  simp only [List.drop_length, behindB]
  rw [if_neg (by omega), if_neg (by simp)]
 unfold kindL
 rw [hN, if_neg (by simp)]
theorem kind_itoa (n : Int) : kindL (Lib.itoa n) = 3 := by
 unfold Lib.itoa
 split
 · obtain ⟨h1, h2, h3, h4⟩ := dec_props n.natAbs
   refine kind_of (m := 1) (by simp [minusL]) h1 h3 (fun e => ?_)
   have := h4 e
   omega
 · obtain ⟨h1, h2, h3, h4⟩ := dec_props n.toNat
   refine kind_of (m := 0) ?_ h1 h3 (fun e => ?_)
   · cases hd : Lib.decDigits n.toNat with
     | nil => rfl
     | cons b t =>
       rw [hd, List.all_cons, Bool.and_eq_true] at h1
       show (if (b == 45) = true then 1 else 0) = 0
       rw [if_neg (by simpa using dig_not_minus h1.1)]
   · have := h4 e
     rw [List.drop_zero, this, Lib.decDigits]
     simp
theorem kind_digits {l : List UInt8} (h : kindL l = 3) : ∃ m, minusL l = m ∧ (l.drop m).all digU = true ∧ l.drop m ≠ [] := by
 unfold kindL at h
 split at h
 · omega
 · rename_i hlt
   unfold nbL at h hlt
   split at h
   · simp at h
   · rename_i h0
     rw [if_neg h0] at hlt
     split at h
     · simp at h
     · rename_i hb
       rw [if_neg hb] at hlt
       refine ⟨minusL l, rfl, ?_⟩
       by_cases hw : wholeL (l.drop (minusL l)) = 0
       · exact absurd (by unfold nmL; rw [if_pos hw]) h0
       · unfold nmL at h hlt
         rw [if_neg hw] at h hlt
         simp only at h hlt
         split at h
         · rename_i hfx
           obtain ⟨hf1, hf2⟩ := hfx
           rw [hf1, Nat.add_zero] at hf2
           rw [hf1, Nat.add_zero, hf2, Nat.add_zero] at hlt
           have hwl := wholeL_le (l.drop (minusL l))
           rw [List.length_drop] at hwl
           have hwe : wholeL (l.drop (minusL l)) = (l.drop (minusL l)).length := by rw [List.length_drop]; omega
           generalize l.drop (minusL l) = r at hw hwe
           cases r with
           | nil => exact absurd rfl hw
           | cons b t =>
             refine ⟨?_, by simp⟩
             by_cases hb : b = 48
             · subst hb
               have : wholeL ((48 : UInt8) :: t) = 1 := rfl
               rw [this] at hwe
               have ht : t = [] := List.eq_nil_of_length_eq_zero (by rw [List.length_cons] at hwe; omega)
               subst ht; rfl
             · have : wholeL (b :: t) = runL (b :: t) := by
                show (if (b == 48) = true then 1 else runL (b :: t)) = _
                rw [if_neg (by simpa using hb)]
               exact all_run (by rw [← this, hwe])
         · simp at h
theorem parseM (l : List UInt8) : ∀ (a : Nat), a ≤ 18446744073709551615 → l.all digU = true → Lib.parseUintM 18446744073709551615 a l = if digA a l ≤ 18446744073709551615 then .ok (digA a l) else .range := by
 induction l with
 | nil => intro a ha _; show Lib.NumEnd.ok a = _; rw [show digA a [] = a from rfl, if_pos ha]
 | cons b t ih =>
   intro a ha h
   rw [List.all_cons, Bool.and_eq_true] at h
   have hd := digU_bd h.1
   have hm : digA a (b :: t) = digA (a * 10 + (b.toNat - 48)) t := rfl
   have hmono := digA_mono t (a * 10 + (b.toNat - 48))
   unfold Lib.parseUintM
   rw [if_pos hd, hm]
   split
   · rw [if_neg (by omega)]
   · split
     · rw [if_neg (by omega)]
     · exact ih _ (by omega) h.2
theorem parse_cons (c : UInt8) (r : List UInt8) : Lib.parseIntB 64 (c :: r) = (match Lib.parseUintB 64 (if c.toNat = 43 ∨ c.toNat = 45 then r else c :: r) with
 | Lib.NumEnd.syntax => Lib.NumEnd.syntax
 | .range => .range
 | .ok u => if ¬ c.toNat = 45 ∧ 2 ^ (64 - 1) ≤ u then .range else if c.toNat = 45 ∧ 2 ^ (64 - 1) < u then .range else .ok (if c.toNat = 45 then -(u : Int) else u)) := rfl
theorem parse_mag {r : List UInt8} (hn : r ≠ []) (hd : r.all digU = true) : Lib.parseUintB 64 r = if digA 0 r ≤ 18446744073709551615 then .ok (digA 0 r) else .range := by
 unfold Lib.parseUintB
 rw [if_neg hn]
 exact parseM r 0 (by omega) hd
theorem parse_int {l : List UInt8} (h : kindL l = 3) : Lib.parseIntB 64 l = if fits64 (intN l) = true then .ok (intN l) else .range := by
 obtain ⟨m, hm, hd, hn⟩ := kind_digits h
 cases l with
 | nil => rw [List.drop_nil] at hn; exact absurd rfl hn
 | cons c r =>
   by_cases hc : c = 45
   · subst hc
     have : m = 1 := hm.symm
     subst this
     rw [show (45 :: r).drop 1 = r from rfl] at hd hn
     have hi : intN (45 :: r) = -(digA 0 r : Int) := int_minus r
     rw [hi, parse_cons, if_pos (Or.inr minus_toNat), parse_mag hn hd]
     by_cases h1 : digA 0 r ≤ 18446744073709551615
     · rw [if_pos h1]
       simp only [minus_toNat]
       by_cases h2 : 9223372036854775808 < digA 0 r
       · have hf : fits64 (-(digA 0 r : Int)) = false := by unfold fits64; exact decide_eq_false (by omega)
         rw [hf, if_neg (by simp), if_pos ⟨trivial, by omega⟩, if_neg (by simp)]
       · have hf : fits64 (-(digA 0 r : Int)) = true := by unfold fits64; exact decide_eq_true (by omega)
         rw [hf, if_neg (by simp), if_neg (by omega), if_pos trivial, if_pos rfl]
     · have hf : fits64 (-(digA 0 r : Int)) = false := by unfold fits64; exact decide_eq_false (by omega)
       rw [if_neg h1, hf, if_neg (by simp)]
   · have hm0 : m = 0 := by rw [← hm]; show (if (c == 45) = true then 1 else 0) = 0; rw [if_neg (by simpa using hc)]
     subst hm0
     rw [List.drop_zero] at hd
     have hcd : digU c = true := by rw [List.all_cons, Bool.and_eq_true] at hd; exact hd.1
     have hcb := digU_bd hcd
     rw [int_digits hd, parse_cons, if_neg (by omega), parse_mag (by simp) hd]
     have hD : digN (c :: r) = digA 0 (c :: r) := rfl
     rw [hD]
     have hc45 : ¬ c.toNat = 45 := by omega
     by_cases h1 : digA 0 (c :: r) ≤ 18446744073709551615
     · rw [if_pos h1]
       simp only
       by_cases h2 : 9223372036854775808 ≤ digA 0 (c :: r)
       · have hf : fits64 (digA 0 (c :: r) : Int) = false := by unfold fits64; exact decide_eq_false (by omega)
         rw [hf, if_pos ⟨hc45, by omega⟩, if_neg (by simp)]
       · have hf : fits64 (digA 0 (c :: r) : Int) = true := by unfold fits64; exact decide_eq_true (by omega)
         rw [hf, if_neg (by omega), if_neg (by omega), if_pos rfl, if_neg hc45]
     · have hf : fits64 (digA 0 (c :: r) : Int) = false := by unfold fits64; exact decide_eq_false (by omega)
       rw [if_neg h1, hf, if_neg (by simp)]
open Go.Shelf Go.RowKit Go.Sort
def pIntRen : Go.Shelf.Ren := ⟨fun | 129 => 278 | 171 => 299 | 174 => 189 | 205 => 298 | 243 => 307 | 245 => 241 | 246 => 198 | 247 => 240 | 279 => 273 | 280 => 274 | 281 => 275 | 282 => 276 | 283 => 244 | 284 => 245 | 285 => 246 | 286 => 247 | 287 => 272 | 316 => 297 | 317 => 277 | 318 => 279 | 319 => 280 | 320 => 281 | 321 => 295 | 322 => 296 | 337 => 300 | 338 => 301 | n => n, fun | 0 => 0 | 2 => 2 | 3 => 3 | 4 => 4 | 5 => 5 | 9 => 9 | 20 => 20 | 21 => 21 | 37 => 100 | 46 => 167 | 51 => 243 | 53 => 238 | 75 => 105 | 80 => 110 | 85 => 212 | 127 => 176 | 143 => 284 | 145 => 286 | 167 => 254 | 168 => 257 | 171 => 237 | 173 => 241 | 175 => 255 | 210 => 278 | 212 => 262 | 213 => 263 | 232 => 287 | 233 => 288 | n => n, fun | 15 => 2 | 16 => 3 | 17 => 0 | 18 => 5 | 19 => 6 | n => n⟩
theorem pIntLays0 : Go.Proofs.Lays.n174 Tryz.prog pIntRen := {
 mixed := by kernel_rfl
 f129 := Tryz.func278.trans (congrArg some (by kernel_rfl))
 f171 := Tryz.func299.trans (congrArg some (by kernel_rfl))
 f174 := Tryz.func189.trans (congrArg some (by kernel_rfl))
 f205 := Tryz.func298.trans (congrArg some (by kernel_rfl))
 f243 := Tryz.func307.trans (congrArg some (by kernel_rfl))
 f245 := Tryz.func241.trans (congrArg some (by kernel_rfl))
 f246 := Tryz.func198.trans (congrArg some (by kernel_rfl))
 f247 := Tryz.func240.trans (congrArg some (by kernel_rfl))
 f279 := Tryz.func273.trans (congrArg some (by kernel_rfl))
 f280 := Tryz.func274.trans (congrArg some (by kernel_rfl))
 f281 := Tryz.func275.trans (congrArg some (by kernel_rfl))
 f282 := Tryz.func276.trans (congrArg some (by kernel_rfl))
 f283 := Tryz.func244.trans (congrArg some (by kernel_rfl))
 f284 := Tryz.func245.trans (congrArg some (by kernel_rfl))
 f285 := Tryz.func246.trans (congrArg some (by kernel_rfl))
 f286 := Tryz.func247.trans (congrArg some (by kernel_rfl))
 f287 := Tryz.func272.trans (congrArg some (by kernel_rfl))
 f316 := Tryz.func297.trans (congrArg some (by kernel_rfl))
 f317 := Tryz.func277.trans (congrArg some (by kernel_rfl))
 f318 := Tryz.func279.trans (congrArg some (by kernel_rfl))
 f319 := Tryz.func280.trans (congrArg some (by kernel_rfl))
 f320 := Tryz.func281.trans (congrArg some (by kernel_rfl))
 f321 := Tryz.func295.trans (congrArg some (by kernel_rfl))
 f322 := Tryz.func296.trans (congrArg some (by kernel_rfl))
 f337 := Tryz.func300.trans (congrArg some (by kernel_rfl))
 f338 := Tryz.func301.trans (congrArg some (by kernel_rfl))
 t0 := Tryz.underlying0
 a0 := Tryz.isAgg0
 z0 := Tryz.sizeOf0
 v0 := Tryz.zeroValue0
 t2 := Tryz.underlying2
 a2 := Tryz.isAgg2
 z2 := Tryz.sizeOf2
 v2 := Tryz.zeroValue2
 t3 := Tryz.underlying3
 a3 := Tryz.isAgg3
 z3 := Tryz.sizeOf3
 v3 := Tryz.zeroValue3
 t4 := Tryz.underlying4
 a4 := Tryz.isAgg4
 z4 := Tryz.sizeOf4
 v4 := Tryz.zeroValue4
 t5 := Tryz.underlying5
 a5 := Tryz.isAgg5
 z5 := Tryz.sizeOf5
 v5 := Tryz.zeroValue5
 t9 := Tryz.underlying9
 a9 := Tryz.isAgg9
 z9 := Tryz.sizeOf9
 v9 := Tryz.zeroValue9
 t20 := Tryz.underlying20
 a20 := Tryz.isAgg20
 z20 := Tryz.sizeOf20
 v20 := Tryz.zeroValue20
 t21 := Tryz.underlying21
 a21 := Tryz.isAgg21
 z21 := Tryz.sizeOf21
 v21 := Tryz.zeroValue21
 t37 := Tryz.underlying100
 a37 := Tryz.isAgg100
 z37 := Tryz.sizeOf100
 v37 := Tryz.zeroValue100
 t46 := Tryz.underlying167
 a46 := Tryz.isAgg167
 z46 := Tryz.sizeOf167
 v46 := Tryz.zeroValue167
 t51 := Tryz.underlying243
 a51 := Tryz.isAgg243
 z51 := Tryz.sizeOf243
 v51 := Tryz.zeroValue243
 t53 := Tryz.underlying238
 a53 := Tryz.isAgg238
 z53 := Tryz.sizeOf238
 v53 := Tryz.zeroValue238
 t75 := Tryz.underlying105
 a75 := Tryz.isAgg105
 z75 := Tryz.sizeOf105
 v75 := Tryz.zeroValue105
 t85 := Tryz.underlying212
 a85 := Tryz.isAgg212
 z85 := Tryz.sizeOf212
 v85 := Tryz.zeroValue212
 t127 := Tryz.underlying176
 a127 := Tryz.isAgg176
 z127 := Tryz.sizeOf176
 v127 := Tryz.zeroValue176
 t143 := Tryz.underlying284
 a143 := Tryz.isAgg284
 z143 := Tryz.sizeOf284
 v143 := Tryz.zeroValue284
 t145 := Tryz.underlying286
 a145 := Tryz.isAgg286
 z145 := Tryz.sizeOf286
 v145 := Tryz.zeroValue286
 t167 := Tryz.underlying254
 a167 := Tryz.isAgg254
 z167 := Tryz.sizeOf254
 v167 := Tryz.zeroValue254
 t168 := Tryz.underlying257
 a168 := Tryz.isAgg257
 z168 := Tryz.sizeOf257
 v168 := Tryz.zeroValue257
 t171 := Tryz.underlying237
 a171 := Tryz.isAgg237
 z171 := Tryz.sizeOf237
 v171 := Tryz.zeroValue237
 t173 := Tryz.underlying241
 a173 := Tryz.isAgg241
 z173 := Tryz.sizeOf241
 v173 := Tryz.zeroValue241
 t175 := Tryz.underlying255
 a175 := Tryz.isAgg255
 z175 := Tryz.sizeOf255
 v175 := Tryz.zeroValue255
 t210 := Tryz.underlying278
 a210 := Tryz.isAgg278
 z210 := Tryz.sizeOf278
 v210 := Tryz.zeroValue278
 t212 := Tryz.underlying262
 a212 := Tryz.isAgg262
 z212 := Tryz.sizeOf262
 v212 := Tryz.zeroValue262
 t213 := Tryz.underlying263
 a213 := Tryz.isAgg263
 z213 := Tryz.sizeOf263
 t232 := Tryz.underlying287
 a232 := Tryz.isAgg287
 z232 := Tryz.sizeOf287
 v232 := Tryz.zeroValue287
 t233 := Tryz.underlying288
 a233 := Tryz.isAgg288
 z233 := Tryz.sizeOf288
 v233 := Tryz.zeroValue288
 g15 := by kernel_rfl
 g16 := by kernel_rfl
 g17 := by kernel_rfl
 g18 := by kernel_rfl
 g19 := by kernel_rfl }
theorem pIntLays1 : Go.Proofs.LaysM.n174 Tryz.prog pIntRen := { pIntLays0 with
 t80 := Tryz.underlying110
 a80 := Tryz.isAgg110
 z80 := Tryz.sizeOf110
 v80 := Tryz.zeroValue110
 i0 := by kernel_rfl
 i2 := by kernel_rfl
 i3 := by kernel_rfl
 i4 := by kernel_rfl
 i5 := by kernel_rfl
 i9 := by kernel_rfl
 i20 := by kernel_rfl
 i21 := by kernel_rfl
 i37 := by kernel_rfl
 i46 := by kernel_rfl
 i51 := by kernel_rfl
 i53 := by kernel_rfl
 i75 := by kernel_rfl
 i80 := by kernel_rfl
 i85 := by kernel_rfl
 i127 := by kernel_rfl
 i143 := by kernel_rfl
 i145 := by kernel_rfl
 i167 := by kernel_rfl
 i168 := by kernel_rfl
 i171 := by kernel_rfl
 i173 := by kernel_rfl
 i175 := by kernel_rfl
 i210 := by kernel_rfl
 i212 := by kernel_rfl
 i232 := by kernel_rfl
 i233 := by kernel_rfl
 m15 := by kernel_rfl
 m16 := by kernel_rfl
 m17 := by kernel_rfl
 m18 := by kernel_rfl
 m19 := by kernel_rfl }
theorem pIntLays : Go.Proofs.LaysC.n174 Tryz.prog pIntRen := { pIntLays1 with
 c0 := by kernel_rfl
 c2 := by kernel_rfl
 c3 := by kernel_rfl
 c4 := by kernel_rfl
 c5 := by kernel_rfl
 c9 := by kernel_rfl
 c20 := by kernel_rfl
 c21 := by kernel_rfl
 c37 := by kernel_rfl
 c46 := by kernel_rfl
 c51 := by kernel_rfl
 c53 := by kernel_rfl
 c75 := by kernel_rfl
 c80 := by kernel_rfl
 c85 := by kernel_rfl
 c127 := by kernel_rfl
 c143 := by kernel_rfl
 c145 := by kernel_rfl
 c167 := by kernel_rfl
 c168 := by kernel_rfl
 c171 := by kernel_rfl
 c173 := by kernel_rfl
 c175 := by kernel_rfl
 c210 := by kernel_rfl
 c212 := by kernel_rfl
 c213 := by kernel_rfl
 c232 := by kernel_rfl
 c233 := by kernel_rfl }
def fIntRen : Go.Shelf.Ren := ⟨fun | 129 => 278 | 173 => 134 | 246 => 198 | 283 => 244 | 284 => 245 | 285 => 246 | 286 => 247 | 317 => 277 | 318 => 279 | 319 => 280 | 320 => 281 | 337 => 300 | 338 => 301 | n => n, fun | 0 => 0 | 2 => 2 | 3 => 3 | 4 => 4 | 5 => 5 | 9 => 9 | 20 => 20 | 37 => 100 | 46 => 167 | 51 => 243 | 53 => 238 | 171 => 237 | 173 => 241 | 212 => 262 | 213 => 263 | 232 => 287 | 233 => 288 | n => n, fun | 17 => 0 | 18 => 5 | 19 => 6 | n => n⟩
theorem fIntLays0 : Go.Proofs.Lays.n173 Tryz.prog fIntRen := {
 mixed := by kernel_rfl
 f129 := Tryz.func278.trans (congrArg some (by kernel_rfl))
 f173 := Tryz.func134.trans (congrArg some (by kernel_rfl))
 f246 := Tryz.func198.trans (congrArg some (by kernel_rfl))
 f283 := Tryz.func244.trans (congrArg some (by kernel_rfl))
 f284 := Tryz.func245.trans (congrArg some (by kernel_rfl))
 f285 := Tryz.func246.trans (congrArg some (by kernel_rfl))
 f286 := Tryz.func247.trans (congrArg some (by kernel_rfl))
 f317 := Tryz.func277.trans (congrArg some (by kernel_rfl))
 f318 := Tryz.func279.trans (congrArg some (by kernel_rfl))
 f319 := Tryz.func280.trans (congrArg some (by kernel_rfl))
 f320 := Tryz.func281.trans (congrArg some (by kernel_rfl))
 f337 := Tryz.func300.trans (congrArg some (by kernel_rfl))
 f338 := Tryz.func301.trans (congrArg some (by kernel_rfl))
 t0 := Tryz.underlying0
 a0 := Tryz.isAgg0
 z0 := Tryz.sizeOf0
 v0 := Tryz.zeroValue0
 t2 := Tryz.underlying2
 a2 := Tryz.isAgg2
 z2 := Tryz.sizeOf2
 v2 := Tryz.zeroValue2
 t3 := Tryz.underlying3
 a3 := Tryz.isAgg3
 z3 := Tryz.sizeOf3
 v3 := Tryz.zeroValue3
 t4 := Tryz.underlying4
 a4 := Tryz.isAgg4
 z4 := Tryz.sizeOf4
 v4 := Tryz.zeroValue4
 t5 := Tryz.underlying5
 a5 := Tryz.isAgg5
 z5 := Tryz.sizeOf5
 v5 := Tryz.zeroValue5
 t9 := Tryz.underlying9
 a9 := Tryz.isAgg9
 z9 := Tryz.sizeOf9
 v9 := Tryz.zeroValue9
 t20 := Tryz.underlying20
 a20 := Tryz.isAgg20
 z20 := Tryz.sizeOf20
 v20 := Tryz.zeroValue20
 t37 := Tryz.underlying100
 a37 := Tryz.isAgg100
 z37 := Tryz.sizeOf100
 v37 := Tryz.zeroValue100
 t46 := Tryz.underlying167
 a46 := Tryz.isAgg167
 z46 := Tryz.sizeOf167
 v46 := Tryz.zeroValue167
 t51 := Tryz.underlying243
 a51 := Tryz.isAgg243
 z51 := Tryz.sizeOf243
 v51 := Tryz.zeroValue243
 t53 := Tryz.underlying238
 a53 := Tryz.isAgg238
 z53 := Tryz.sizeOf238
 v53 := Tryz.zeroValue238
 t171 := Tryz.underlying237
 a171 := Tryz.isAgg237
 z171 := Tryz.sizeOf237
 v171 := Tryz.zeroValue237
 t173 := Tryz.underlying241
 a173 := Tryz.isAgg241
 z173 := Tryz.sizeOf241
 v173 := Tryz.zeroValue241
 t212 := Tryz.underlying262
 a212 := Tryz.isAgg262
 z212 := Tryz.sizeOf262
 v212 := Tryz.zeroValue262
 t213 := Tryz.underlying263
 a213 := Tryz.isAgg263
 z213 := Tryz.sizeOf263
 t232 := Tryz.underlying287
 a232 := Tryz.isAgg287
 z232 := Tryz.sizeOf287
 v232 := Tryz.zeroValue287
 t233 := Tryz.underlying288
 a233 := Tryz.isAgg288
 z233 := Tryz.sizeOf288
 v233 := Tryz.zeroValue288
 g17 := by kernel_rfl
 g18 := by kernel_rfl
 g19 := by kernel_rfl }
theorem fIntLays1 : Go.Proofs.LaysM.n173 Tryz.prog fIntRen := { fIntLays0 with
 i0 := by kernel_rfl
 i2 := by kernel_rfl
 i3 := by kernel_rfl
 i4 := by kernel_rfl
 i5 := by kernel_rfl
 i9 := by kernel_rfl
 i20 := by kernel_rfl
 i37 := by kernel_rfl
 i46 := by kernel_rfl
 i51 := by kernel_rfl
 i53 := by kernel_rfl
 i171 := by kernel_rfl
 i173 := by kernel_rfl
 i212 := by kernel_rfl
 i232 := by kernel_rfl
 i233 := by kernel_rfl
 m17 := by kernel_rfl
 m18 := by kernel_rfl
 m19 := by kernel_rfl }
theorem fIntLays : Go.Proofs.LaysC.n173 Tryz.prog fIntRen := { fIntLays1 with
 c0 := by kernel_rfl
 c2 := by kernel_rfl
 c3 := by kernel_rfl
 c4 := by kernel_rfl
 c5 := by kernel_rfl
 c9 := by kernel_rfl
 c20 := by kernel_rfl
 c37 := by kernel_rfl
 c46 := by kernel_rfl
 c51 := by kernel_rfl
 c53 := by kernel_rfl
 c171 := by kernel_rfl
 c173 := by kernel_rfl
 c212 := by kernel_rfl
 c213 := by kernel_rfl
 c232 := by kernel_rfl
 c233 := by kernel_rfl }
def Laid5 (w : World) : Prop := TabAt w ∧ (∃ te pe, w.cell? ⟨3, 0, none⟩ = some (.iface te pe)) ∧ Lib.TabIs Tryz.prog w "internal/strconv.uint64pow10" .u64 Lib.pow10Tab
theorem gPow : Tryz.prog.globalNamed "internal/strconv.uint64pow10" = some 0 := by kernel_rfl
theorem lt_cell {w : World} {b o : Nat} {v : Value} (h : w.cell? ⟨b, o, none⟩ = some v) : b < w.heap.size := World.block_lt_of_cell? w _ h
theorem Laid5.below {w w' : World} (h : Laid5 w) (hb : Below w.heap.size w w') : Laid5 w' := by
 obtain ⟨ht, ⟨te, pe, hc⟩, hp⟩ := h
 exact ⟨ht.below hb ht.lt, ⟨te, pe, (hb.cell (p := ⟨3, 0, none⟩) (lt_cell hc)).trans hc⟩, Go.Joins.var_stays gPow hp hb (Nat.le_refl _)⟩
def K5 (w wx : World) : Prop := Laid5 wx ∧ Below w.heap.size w wx
theorem parseInt_yes (s : ByteArray) (hs : s.size ≤ 1100000) (hk : kindL s.data.toList = 3) (hf : fits64 (intN s.data.toList) = true) (w : World) :
   Calls Tryz.prog 189 #[.string s, .int .i64 10, .int .i64 64] w fun e w' => e = .returned (.tuple #[.int .i64 (intN s.data.toList), .nilIface]) ∧ Below w.heap.size w w' := by
 have hp := parse_int hk
 rw [if_pos hf] at hp
 refine (Any.strconv_ParseInt_10_at64_ok pIntLays s (by omega) _ hp w).mono ?_
 rintro e w' ⟨he, h | ⟨t, h⟩⟩
 · subst h; exact ⟨he, Below.refl _ _⟩
 · subst h; exact ⟨he, Lib.bytesWorld_below _ _ _⟩
theorem parseInt_no (s : ByteArray) (hs : s.size ≤ 1100000) (hk : kindL s.data.toList = 3) (hf : fits64 (intN s.data.toList) = false) (w : World) (hw : Laid5 w) :
  Calls Tryz.prog 189 #[.string s, .int .i64 10, .int .i64 64] w fun e w' => (∃ z N, e = .returned (.tuple #[.int .i64 z, .iface 257 (.pointer (some ⟨N, 0, none⟩))])) ∧ Below w.heap.size w w' := by
 have hp := parse_int hk
 rw [if_neg (by rw [hf]; simp)] at hp
 obtain ⟨_, ⟨te, pe, hc⟩, _⟩ := hw
 refine (Any.strconv_ParseInt_10_at64_range pIntLays s (by omega) hp (.iface te pe) w hc (Or.inr ⟨te, pe, rfl⟩)).mono ?_
 rintro e w' ⟨N, he, _, _, hb⟩
 exact ⟨⟨_, N, he⟩, hb⟩
theorem below_grow (w : World) (n : Nat) (os : Array Obj) : Below w.heap.size w (grow (w.drewN n) os) := by
 refine ⟨rfl, rfl, rfl, ?_, ?_⟩
 · show w.heap.size ≤ (w.heap ++ os).size
   simp
 · intro b hb
   show (w.heap ++ os)[b]? = w.heap[b]?
   rw [Array.getElem?_append_left hb]
theorem formatInt (n : Int) (h : -9223372036854775808 ≤ n ∧ n ≤ 9223372036854775807) (w : World) (hw : Laid5 w) :
  Calls Tryz.prog 134 #[.int .i64 n, .int .i64 10] w fun e w' => e = .returned (.string ⟨(Lib.itoa n).toArray⟩) ∧ Below w.heap.size w w' := by
 refine (Any.strconv_FormatInt_10 fIntLays.toM n h.1 h.2 w hw.2.2).mono ?_
 rintro e w' ⟨he, k, os, rfl⟩
 exact ⟨he, below_grow _ _ _⟩
open Go.RowKit
set_option maxRecDepth 100000 in
theorem vnumber_any (s : ByteArray) (w : World) (hs : s.size ≤ 1100000) (hw : Laid5 w) : Calls Tryz.prog 242 #[.string s] w fun e w' => e = .returned (.bool (numB s.data.toList)) ∧ Below w.heap.size w w' := by
 have hN := vnumberf_any s w hs
 by_cases h4 : kindL s.data.toList = 4
 · have hr : Hid (numB s.data.toList = true) := Hd (by unfold numB; rw [h4]; rfl)
   rw [h4] at hN
   have HN := Hd hN
   clear hN h4
   go_enter Tryz.func242, Tryz.ntmps242
   go_wp2_with fail
   refine HN.out.mono ?_
   rintro e w1 ⟨rfl, hb⟩
   have HB := Hd hb
   clear hb
   go_wp2_with fail
   go_ret
   exact ⟨ret_bool hr.out.symm, HB.out⟩
 · by_cases h3 : kindL s.data.toList = 3
   · cases hf : fits64 (intN s.data.toList) with
     | true =>
       have hr : Hid (numB s.data.toList = false) := Hd (by unfold numB; rw [h3, hf]; rfl)
       have HP := fun wx => Hd (parseInt_yes s hs h3 hf wx)
       rw [h3] at hN
       have HN := Hd hN
       clear hN h3 h4 hf
       go_enter Tryz.func242, Tryz.ntmps242
       go_wp2_with fail
       refine HN.out.mono ?_
       rintro e w1 ⟨rfl, hb⟩
       have HB := Hd hb
       clear hb
       go_wp2_with fail
       refine (HP _).out.mono ?_
       rintro e w2 ⟨rfl, hb⟩
       have HB2 := Hd (HB.out.trans (hb.mono HB.out.size))
       clear hb
       go_wp2_with fail
       go_ret
       exact ⟨ret_bool hr.out.symm, HB2.out⟩
     | false =>
       have hr : Hid (numB s.data.toList = true) := Hd (by unfold numB; rw [h3, hf]; rfl)
       have HP := fun wx (hx : Laid5 wx) => Hd (parseInt_no s hs h3 hf wx hx)
       rw [h3] at hN
       have HN := Hd hN
       have HW := Hd hw
       clear hN h3 h4 hf hw
       go_enter Tryz.func242, Tryz.ntmps242
       go_wp2_with fail
       refine HN.out.mono ?_
       rintro e w1 ⟨rfl, hb⟩
       have HB := Hd hb
       clear hb
       go_wp2_with fail
       refine (HP _ (HW.out.below HB.out)).out.mono ?_
       rintro e w2 ⟨⟨z, N, rfl⟩, hb⟩
       have HB2 := Hd (HB.out.trans (hb.mono HB.out.size))
       clear hb
       go_wp2_with fail
       go_ret
       exact ⟨ret_bool hr.out.symm, HB2.out⟩
   · have hr : Hid (numB s.data.toList = false) := Hd (by unfold numB; simp [h3, h4])
     obtain ⟨k, hk⟩ : ∃ k, kindL s.data.toList = k := ⟨_, rfl⟩
     rw [hk] at hN h3 h4
     have g4 : (k == 4) = false := by simpa using h4
     have g3 : (k == 3) = false := by simpa using h3
     have HN := Hd hN
     clear hN h3 h4 hk
     go_enter Tryz.func242, Tryz.ntmps242
     go_wp2_with fail
     refine HN.out.mono ?_
     rintro e w1 ⟨rfl, hb⟩
     have HB := Hd hb
     clear hb
     go_wp2_with fail
     go_ret
     exact ⟨ret_bool hr.out.symm, HB.out⟩
theorem enum_said {s : ByteArray} {b0 b1 b2 b3 : Bool} (h0 : nameB s.data.toList = b0) (h1 : (s.toList == [110, 117, 108, 108]) = b1) (h2 : (s.toList == [116, 114, 117, 101]) = b2) (h3 : (s.toList == [102, 97, 108, 115, 101]) = b3) :
  enumB s.data.toList = (b0 && !b1 && !b2 && !b3) := by
 rw [Lib.toList_data] at h1 h2 h3
 unfold enumB
 rw [h0, ← h1, ← h2, ← h3]
 rfl
set_option maxRecDepth 100000 in
theorem venum_any (s : ByteArray) (w : World) (hs : s.size ≤ 1100000) : Calls Tryz.prog 243 #[.string s] w fun e w' => e = .returned (.bool (enumB s.data.toList)) ∧ Below w.heap.size w w' := by
 have hN := fun wx => name_any s wx hs
 obtain ⟨b0, h0⟩ : ∃ b, nameB s.data.toList = b := ⟨_, rfl⟩
 obtain ⟨b1, h1⟩ : ∃ b, (s.toList == [110, 117, 108, 108]) = b := ⟨_, rfl⟩
 obtain ⟨b2, h2⟩ : ∃ b, (s.toList == [116, 114, 117, 101]) = b := ⟨_, rfl⟩
 obtain ⟨b3, h3⟩ : ∃ b, (s.toList == [102, 97, 108, 115, 101]) = b := ⟨_, rfl⟩
 have hr := Hd (enum_said h0 h1 h2 h3)
 rw [h0] at hN
 have HN := fun wx => Hd (hN wx)
 clear hN h0
 cases b0 <;> cases b1 <;> cases b2 <;> cases b3
 all_goals
  go_enter Tryz.func243, Tryz.ntmps243
  go_wp2_with (go_at_call 130; refine (HN _).out.mono ?_; rintro e w1 ⟨rfl, rfl⟩)
  go_ret
  exact ⟨ret_bool (by rw [hr.out]; rfl), Below.refl _ _⟩
def flatV (k n : Int) (s : ByteArray) : Value := .agg #[.int .i64 k, .int .i64 n, .string s, .slice none 0 0, .slice none 0 0]
def wordR (s : ByteArray) : Int × Int × ByteArray :=
 if s.data.toList = nullL then (0, 0, ⟨#[]⟩) else if s.data.toList = trueL then (1, 1, ⟨#[]⟩) else if s.data.toList = falseL then (1, 0, ⟨#[]⟩) else (5, 0, s)
def singleR (t : Tok) : Option (Int × Int × ByteArray) :=
 if t.1 = 2 then some (wordR t.2)
 else if t.1 = 3 then (if fits64 (intN t.2.data.toList) = true then some (2, intN t.2.data.toList, ⟨#[]⟩) else some (3, 0, t.2))
 else if t.1 = 4 then some (3, 0, t.2) else if t.1 = 5 then some (4, 0, t.2) else none
theorem eq_list {s : ByteArray} {l : List UInt8} {b : Bool} (h : (s.toList == l) = b) : (s.data.toList = l) ↔ b = true := by
 rw [Lib.toList_data] at h
 rw [← h]; simp
set_option maxRecDepth 100000 in
theorem wordV_any (s : ByteArray) (w : World) : Calls Tryz.prog 188 #[.string s] w fun e w' => e = .returned (flatV (wordR s).1 (wordR s).2.1 (wordR s).2.2) ∧ Below w.heap.size w w' := by
 obtain ⟨b1, h1⟩ : ∃ b, (s.toList == [110, 117, 108, 108]) = b := ⟨_, rfl⟩
 obtain ⟨b2, h2⟩ : ∃ b, (s.toList == [116, 114, 117, 101]) = b := ⟨_, rfl⟩
 obtain ⟨b3, h3⟩ : ∃ b, (s.toList == [102, 97, 108, 115, 101]) = b := ⟨_, rfl⟩
 have hw : wordR s = if b1 = true then (0, 0, ⟨#[]⟩) else if b2 = true then (1, 1, ⟨#[]⟩) else if b3 = true then (1, 0, ⟨#[]⟩) else (5, 0, s) := by
   unfold wordR
   simp only [show (s.data.toList = nullL) = (b1 = true) from propext (eq_list h1), show (s.data.toList = trueL) = (b2 = true) from propext (eq_list h2), show (s.data.toList = falseL) = (b3 = true) from propext (eq_list h3)]
 rw [hw]
 clear hw
 cases b1 with
 | true =>
   go_enter Tryz.func188, Tryz.ntmps188
   go_wp2_with fail
   exact ret_v1 rfl rfl rfl (heap_alloc_last _ _) ⟨rfl, (Below.refl _ _).alloc (Nat.le_refl _) _⟩
 | false =>
 cases b2 with
 | true =>
   go_enter Tryz.func188, Tryz.ntmps188
   go_wp2_with fail
   exact ret_v1 rfl rfl rfl (heap_alloc_last _ _) ⟨rfl, (Below.refl _ _).alloc (Nat.le_refl _) _⟩
 | false =>
 cases b3 with
 | true =>
   go_enter Tryz.func188, Tryz.ntmps188
   go_wp2_with fail
   exact ret_v1 rfl rfl rfl (heap_alloc_last _ _) ⟨rfl, (Below.refl _ _).alloc (Nat.le_refl _) _⟩
 | false =>
   go_enter Tryz.func188, Tryz.ntmps188
   go_wp2_with fail
   exact ret_v1 rfl rfl rfl (heap_alloc_last _ _) ⟨rfl, (Below.refl _ _).alloc (Nat.le_refl _) _⟩
theorem tok_box (w : World) (a b : Value) (o : Obj) : ((w.alloc (.cells #[a, b] 70)).alloc o).heap[w.heap.size]? = some (.cells #[a, b] 70 (0, 0)) ∧ ((w.alloc (.cells #[a, b] 70)).alloc o).heap[w.heap.size + 1]? = some o ∧ Below w.heap.size w ((w.alloc (.cells #[a, b] 70)).alloc o) := by
 refine ⟨(Below.heap_alloc _ _ _ (by simp)).trans (heap_alloc_new _ _), ?_, ((Below.refl _ _).alloc (Nat.le_refl _) _).alloc (by simp) _⟩
 have h2 := heap_alloc_new (w.alloc (.cells #[a, b] 70)) o
 have e : (w.alloc (.cells #[a, b] 70)).heap.size = w.heap.size + 1 := by simp
 rwa [e] at h2
theorem five_low {w w2 : World} {b : Nat} (h : Below w.heap.size w w2) (hb : w.heap.size ≤ b) (x0 x1 x2 x3 x4 : Value) : Below w.heap.size w (((((w2.setCell ⟨b, 0, none⟩ x0).setCell ⟨b, 1, none⟩ x1).setCell ⟨b, 2, none⟩ x2).setCell ⟨b, 3, none⟩ x3).setCell ⟨b, 4, none⟩ x4) :=
 ((((h.setCell hb _).setCell hb _).setCell hb _).setCell hb _).setCell hb _
set_option maxRecDepth 100000 in
set_option maxHeartbeats 4000000 in
theorem single_any (t : Tok) (w : World) (hs : t.2.size ≤ 9000) (hk : t.1 = 3 → kindL t.2.data.toList = 3) (hw : Laid5 w) : Calls Tryz.prog 118 #[.agg #[.int .i64 t.1, .string t.2]] w fun e w' => match singleR t with
   | some (k, n, s) => e = .returned (flatV k n s) ∧ Below w.heap.size w w'
   | none => e = PanicE 2 ∧ Below w.heap.size w w' := by
 obtain ⟨tk, s⟩ := t
 simp only at hs hk ⊢
 obtain ⟨y0, y1, yb⟩ := tok_box w (.int .i64 tk) (.string s) (.cells #[.int .i64 0, .int .i64 0, .string ⟨#[]⟩, .slice none 0 0, .slice none 0 0] 35)
 have Y := Hd (And.intro y0 (And.intro y1 yb))
 have hsz : Hid (((w.alloc (.cells #[.int .i64 tk, .string s] 70)).alloc (.cells #[.int .i64 0, .int .i64 0, .string ⟨#[]⟩, .slice none 0 0, .slice none 0 0] 35)).heap.size = w.heap.size + 2) := Hd (by simp)
 clear y0 y1 yb
 by_cases h2 : tk = 2
 · subst h2
   have hr : singleR (2, s) = some (wordR s) := by unfold singleR; rw [if_pos rfl]
   rw [hr]
   have HW := fun wx => Hd (wordV_any s wx)
   obtain ⟨⟨k, n, x⟩, hx⟩ : ∃ p, wordR s = p := ⟨_, rfl⟩
   rw [hx] at HW ⊢
   show Calls _ _ _ _ fun e w' => e = .returned (flatV k n x) ∧ Below w.heap.size w w'
   unfold flatV at HW ⊢
   clear hr hx hk
   go_enter Tryz.func118, Tryz.ntmps118
   go_wp2_with fail
   refine (HW _).out.mono ?_
   rintro e w2 ⟨rfl, hb⟩
   have z1 := (hb.block (w.heap.size + 1) (by have := hsz.out; omega)).trans Y.out.2.1
   have Z := Hd (And.intro z1 (Y.out.2.2.trans (hb.mono (by have := hsz.out; omega))))
   obtain ⟨g0, g1, g2, g3, g4, gz⟩ := gvc z1
   have z0' := gz 0
   have z1' := gz 1
   have z2' := gz 2
   have z3' := gz 3
   have z4' := gz 4
   clear hb z1 HW gz
   go_wp2_with fail
   exact ret_v1 rfl rfl rfl (five_set Z.out.1) ⟨rfl, five_low Z.out.2 (Nat.le_succ _) _ _ _ _ _⟩
 · have e2 : (tk == 2) = false := by simpa using h2
   by_cases h3 : tk = 3
   · subst h3
     have hk3 := hk rfl
     cases hf : fits64 (intN s.data.toList) with
     | true =>
       have hr : singleR (3, s) = some (2, intN s.data.toList, ⟨#[]⟩) := by unfold singleR; rw [if_neg (by simp), if_pos rfl, if_pos hf]
       rw [hr]
       have HP := fun wx => Hd (parseInt_yes s (by omega) hk3 hf wx)
       generalize intN s.data.toList = z at *
       have HI := fun wx => Hd (pint_any z wx)
       show Calls _ _ _ _ fun e w' => e = .returned (flatV 2 z ⟨#[]⟩) ∧ Below w.heap.size w w'
       unfold flatV
       clear hr hk hk3 hf h2
       obtain ⟨q0, q1, _, _⟩ := two_box Y.out.1
       go_enter Tryz.func118, Tryz.ntmps118
       go_wp2_with fail
       refine (HP _).out.mono ?_
       rintro e w2 ⟨rfl, hb⟩
       clear q0 q1
       have z0 := (hb.block w.heap.size (by have := hsz.out; omega)).trans Y.out.1
       have z1 := (hb.block (w.heap.size + 1) (by have := hsz.out; omega)).trans Y.out.2.1
       have Z := Hd (And.intro z1 (Y.out.2.2.trans (hb.mono (by have := hsz.out; omega))))
       have hlt2 : w.heap.size + 2 ≤ w2.heap.size := by have := hb.size; have := hsz.out; omega
       obtain ⟨q0, q1, _, _⟩ := two_box z0
       obtain ⟨g0, g1, g2, g3, g4, gz⟩ := gvc z1
       have z0' := gz 0
       have z1' := gz 1
       have z2' := gz 2
       have z3' := gz 3
       have z4' := gz 4
       clear hb z0 z1 gz
       go_wp2_with fail
       refine (HI _).out.mono ?_
       rintro e w3 ⟨rfl, hb3⟩
       have z1 := (hb3.block (w.heap.size + 1) (by omega)).trans Z.out.1
       have Z3 := Hd (And.intro z1 (Z.out.2.trans (hb3.mono (by omega))))
       clear q0 q1 g0 g1 g2 g3 g4 z0' z1' z2' z3' z4'
       obtain ⟨g0, g1, g2, g3, g4, gz⟩ := gvc z1
       have z0' := gz 0
       have z1' := gz 1
       have z2' := gz 2
       have z3' := gz 3
       have z4' := gz 4
       clear hb3 z1 gz
       go_wp2_with fail
       exact ret_v1 rfl rfl rfl (five_set Z3.out.1) ⟨rfl, five_low Z3.out.2 (Nat.le_succ _) _ _ _ _ _⟩
     | false =>
       have hr : singleR (3, s) = some (3, 0, s) := by unfold singleR; rw [if_neg (by simp), if_pos rfl, if_neg (by rw [hf]; simp)]
       rw [hr]
       have HP := fun wx (hx : Laid5 wx) => Hd (parseInt_no s (by omega) hk3 hf wx hx)
       have HW := Hd (hw.below Y.out.2.2)
       show Calls _ _ _ _ fun e w' => e = .returned (flatV 3 0 s) ∧ Below w.heap.size w w'
       unfold flatV
       clear hr hk hk3 hf h2
       obtain ⟨q0, q1, _, _⟩ := two_box Y.out.1
       go_enter Tryz.func118, Tryz.ntmps118
       go_wp2_with fail
       refine (HP _ HW.out).out.mono ?_
       rintro e w2 ⟨⟨z, N, rfl⟩, hb⟩
       clear q0 q1
       have z0 := (hb.block w.heap.size (by have := hsz.out; omega)).trans Y.out.1
       have z1 := (hb.block (w.heap.size + 1) (by have := hsz.out; omega)).trans Y.out.2.1
       have Z := Hd (And.intro z1 (Y.out.2.2.trans (hb.mono (by have := hsz.out; omega))))
       have hlt2 : w.heap.size + 2 ≤ w2.heap.size := by have := hb.size; have := hsz.out; omega
       obtain ⟨q0, q1, _, _⟩ := two_box z0
       obtain ⟨g0, g1, g2, g3, g4, gz⟩ := gvc z1
       have z0' := gz 0
       have z1' := gz 1
       have z2' := gz 2
       have z3' := gz 3
       have z4' := gz 4
       clear hb z0 z1 gz
       go_wp2_with fail
       exact ret_v1 rfl rfl rfl (five_set Z.out.1) ⟨rfl, five_low Z.out.2 (Nat.le_succ _) _ _ _ _ _⟩
   · have e3 : (tk == 3) = false := by simpa using h3
     by_cases h4 : tk = 4
     · subst h4
       have hr : singleR (4, s) = some (3, 0, s) := by unfold singleR; rw [if_neg (by simp), if_neg (by simp), if_pos rfl]
       rw [hr]
       show Calls _ _ _ _ fun e w' => e = .returned (flatV 3 0 s) ∧ Below w.heap.size w w'
       unfold flatV
       clear hr hk h2 h3
       go_enter Tryz.func118, Tryz.ntmps118
       go_wp2_with fail
       exact ret_v1 rfl rfl rfl (tok_box w _ _ _).2.1 ⟨rfl, (tok_box w _ _ _).2.2⟩
     · have e4 : (tk == 4) = false := by simpa using h4
       by_cases h5 : tk = 5
       · subst h5
         have hr : singleR (5, s) = some (4, 0, s) := by unfold singleR; rw [if_neg (by simp), if_neg (by simp), if_neg (by simp), if_pos rfl]
         rw [hr]
         have HI := fun wx => Hd (ptext_any s wx)
         show Calls _ _ _ _ fun e w' => e = .returned (flatV 4 0 s) ∧ Below w.heap.size w w'
         unfold flatV
         clear hr hk h2 h3 h4
         go_enter Tryz.func118, Tryz.ntmps118
         go_wp2_with fail
         refine (HI _).out.mono ?_
         rintro e w2 ⟨rfl, hb⟩
         have z0 := (hb.block w.heap.size (by have := hsz.out; omega)).trans Y.out.1
         have z1 := (hb.block (w.heap.size + 1) (by have := hsz.out; omega)).trans Y.out.2.1
         have Z := Hd (And.intro z1 (Y.out.2.2.trans (hb.mono (by have := hsz.out; omega))))
         have hlt2 : w.heap.size + 2 ≤ w2.heap.size := by have := hb.size; have := hsz.out; omega
         obtain ⟨q0, q1, _, _⟩ := two_box z0
         obtain ⟨g0, g1, g2, g3, g4, gz⟩ := gvc z1
         have z0' := gz 0
         have z1' := gz 1
         have z2' := gz 2
         have z3' := gz 3
         have z4' := gz 4
         clear hb z0 z1 gz
         go_wp2_with fail
         exact ret_v1 rfl rfl rfl (five_set Z.out.1) ⟨rfl, five_low Z.out.2 (Nat.le_succ _) _ _ _ _ _⟩
       · have e5 : (tk == 5) = false := by simpa using h5
         have hr : singleR (tk, s) = none := by unfold singleR; rw [if_neg h2, if_neg h3, if_neg h4, if_neg h5]
         rw [hr]
         show Calls _ _ _ _ fun e w' => e = PanicE 2 ∧ Below w.heap.size w w'
         clear hr hk h2 h3 h4 h5
         go_enter Tryz.func118, Tryz.ntmps118
         go_wp2_with fail
         exact ⟨rfl, rfl, Y.out.2.2⟩
def rightT (n : List UInt8) (l m : Int) : Bool := nameB n && (decide (0 ≤ l) && (decide (l ≤ 4) && (decide (0 ≤ m) && decide (m < 2 ^ (l.toNat + 1)))))
theorem bdraw {B : Nat} {a w : World} (h : Below B a w) (n : Nat) : Below B a (w.drewN n) := ⟨h.os, h.tape, h.output, h.size, h.block⟩
theorem ret_bb {a b : Bool} (h : a = b) : Ending.returned (.bool a) = .returned (.bool b) := by rw [h]
theorem right_true {n : List UInt8} {l m : Int} (h : rightT n l m = true) : nameB n = true ∧ 0 ≤ l ∧ l ≤ 4 ∧ 0 ≤ m ∧ m < 2 ^ (l.toNat + 1) := by
 simpa [rightT] using h
theorem right_small {n : List UInt8} {l m : Int} (h : rightT n l m = true) : 0 ≤ l ∧ l ≤ 4 ∧ 0 ≤ m ∧ m < 32 := by
 obtain ⟨_, h1, h2, h3, h4⟩ := right_true h
 refine ⟨h1, h2, h3, ?_⟩
 have : l = 0 ∨ l = 1 ∨ l = 2 ∨ l = 3 ∨ l = 4 := by omega
 rcases this with rfl | rfl | rfl | rfl | rfl <;> simp at h4 <;> omega
theorem right_of {n : List UInt8} {l m : Int} (hn : nameB n = true) (h1 : 0 ≤ l) (h2 : l ≤ 4) (h3 : 0 ≤ m) (h4 : m < 2 ^ (l.toNat + 1)) : rightT n l m = true := by
 simp [rightT, hn, h1, h2, h3, h4]
theorem five {l : Int} (h0 : 0 ≤ l) (h4 : l ≤ 4) : l = 0 ∨ l = 1 ∨ l = 2 ∨ l = 3 ∨ l = 4 := by omega
set_option maxRecDepth 100000 in
set_option maxHeartbeats 2000000 in
theorem wright_any (n : ByteArray) (l m : Int) (w : World) (hn : n.size ≤ 9000) : Calls Tryz.prog 213 #[.agg #[.string n, .int .i64 l, .int .i64 m]] w fun e w' => e = .returned (.bool (rightT n.data.toList l m)) ∧ Below w.heap.size w w' := by
 have HN := fun w => Hd (name_any n w (by omega))
 have HB := Hd (below_new (w := w) (cs := #[.string n, .int .i64 l, .int .i64 m]) (t := 39))
 cases hb : nameB n.data.toList
 · have hr : Hid (rightT n.data.toList l m = false) := Hd (by simp [rightT, hb])
   rw [hb] at HN
   clear hb
   go_enter Tryz.func213, Tryz.ntmps213
   go_wp2
   go_quiet (exact (HN _).out.mono fun _ _ h => ⟨h.1, _, h.2.symm⟩)
   go_wp2
   go_ret
   exact ⟨ret_bb hr.out.symm, bdraw HB.out _⟩
 · rw [hb] at HN
   have hb' := Hd hb
   clear hb
   by_cases h1 : 0 ≤ l
   · by_cases h2 : l ≤ 4
     · by_cases h3 : 0 ≤ m
       · have t1 : decide ((0 : Int) ≤ m) = true := by simpa using h3
         rcases five h1 h2 with rfl | rfl | rfl | rfl | rfl
         · by_cases h4 : m < 2
           · have hr : Hid (rightT n.data.toList 0 m = true) := Hd (right_of hb'.out (by omega) (by omega) h3 (by simpa using h4))
             have t2 : decide (m < 2) = true := by simpa using h4
             go_enter Tryz.func213, Tryz.ntmps213
             go_wp2
             go_quiet (exact (HN _).out.mono fun _ _ h => ⟨h.1, _, h.2.symm⟩)
             go_wp2
             go_ret
             exact ⟨ret_bb hr.out.symm, bdraw HB.out _⟩
           · have hr : Hid (rightT n.data.toList 0 m = false) := Hd (by simp [rightT]; intro _ _; simp at h4; omega)
             have t2 : decide (m < 2) = false := by simpa using h4
             go_enter Tryz.func213, Tryz.ntmps213
             go_wp2
             go_quiet (exact (HN _).out.mono fun _ _ h => ⟨h.1, _, h.2.symm⟩)
             go_wp2
             go_ret
             exact ⟨ret_bb hr.out.symm, bdraw HB.out _⟩
         · by_cases h4 : m < 4
           · have hr : Hid (rightT n.data.toList 1 m = true) := Hd (right_of hb'.out (by omega) (by omega) h3 (by simpa using h4))
             have t2 : decide (m < 4) = true := by simpa using h4
             go_enter Tryz.func213, Tryz.ntmps213
             go_wp2
             go_quiet (exact (HN _).out.mono fun _ _ h => ⟨h.1, _, h.2.symm⟩)
             go_wp2
             go_ret
             exact ⟨ret_bb hr.out.symm, bdraw HB.out _⟩
           · have hr : Hid (rightT n.data.toList 1 m = false) := Hd (by simp [rightT]; intro _ _; simp at h4; omega)
             have t2 : decide (m < 4) = false := by simpa using h4
             go_enter Tryz.func213, Tryz.ntmps213
             go_wp2
             go_quiet (exact (HN _).out.mono fun _ _ h => ⟨h.1, _, h.2.symm⟩)
             go_wp2
             go_ret
             exact ⟨ret_bb hr.out.symm, bdraw HB.out _⟩
         · by_cases h4 : m < 8
           · have hr : Hid (rightT n.data.toList 2 m = true) := Hd (right_of hb'.out (by omega) (by omega) h3 (by simpa using h4))
             have t2 : decide (m < 8) = true := by simpa using h4
             go_enter Tryz.func213, Tryz.ntmps213
             go_wp2
             go_quiet (exact (HN _).out.mono fun _ _ h => ⟨h.1, _, h.2.symm⟩)
             go_wp2
             go_ret
             exact ⟨ret_bb hr.out.symm, bdraw HB.out _⟩
           · have hr : Hid (rightT n.data.toList 2 m = false) := Hd (by simp [rightT]; intro _ _; simp at h4; omega)
             have t2 : decide (m < 8) = false := by simpa using h4
             go_enter Tryz.func213, Tryz.ntmps213
             go_wp2
             go_quiet (exact (HN _).out.mono fun _ _ h => ⟨h.1, _, h.2.symm⟩)
             go_wp2
             go_ret
             exact ⟨ret_bb hr.out.symm, bdraw HB.out _⟩
         · by_cases h4 : m < 16
           · have hr : Hid (rightT n.data.toList 3 m = true) := Hd (right_of hb'.out (by omega) (by omega) h3 (by simpa using h4))
             have t2 : decide (m < 16) = true := by simpa using h4
             go_enter Tryz.func213, Tryz.ntmps213
             go_wp2
             go_quiet (exact (HN _).out.mono fun _ _ h => ⟨h.1, _, h.2.symm⟩)
             go_wp2
             go_ret
             exact ⟨ret_bb hr.out.symm, bdraw HB.out _⟩
           · have hr : Hid (rightT n.data.toList 3 m = false) := Hd (by simp [rightT]; intro _ _; simp at h4; omega)
             have t2 : decide (m < 16) = false := by simpa using h4
             go_enter Tryz.func213, Tryz.ntmps213
             go_wp2
             go_quiet (exact (HN _).out.mono fun _ _ h => ⟨h.1, _, h.2.symm⟩)
             go_wp2
             go_ret
             exact ⟨ret_bb hr.out.symm, bdraw HB.out _⟩
         · by_cases h4 : m < 32
           · have hr : Hid (rightT n.data.toList 4 m = true) := Hd (right_of hb'.out (by omega) (by omega) h3 (by simpa using h4))
             have t2 : decide (m < 32) = true := by simpa using h4
             go_enter Tryz.func213, Tryz.ntmps213
             go_wp2
             go_quiet (exact (HN _).out.mono fun _ _ h => ⟨h.1, _, h.2.symm⟩)
             go_wp2
             go_ret
             exact ⟨ret_bb hr.out.symm, bdraw HB.out _⟩
           · have hr : Hid (rightT n.data.toList 4 m = false) := Hd (by simp [rightT]; intro _ _; simp at h4; omega)
             have t2 : decide (m < 32) = false := by simpa using h4
             go_enter Tryz.func213, Tryz.ntmps213
             go_wp2
             go_quiet (exact (HN _).out.mono fun _ _ h => ⟨h.1, _, h.2.symm⟩)
             go_wp2
             go_ret
             exact ⟨ret_bb hr.out.symm, bdraw HB.out _⟩
       · have hr : Hid (rightT n.data.toList l m = false) := Hd (by simp [rightT]; omega)
         have t1 : decide ((0 : Int) ≤ m) = false := by simpa using h3
         go_enter Tryz.func213, Tryz.ntmps213
         go_wp2
         go_quiet (exact (HN _).out.mono fun _ _ h => ⟨h.1, _, h.2.symm⟩)
         go_wp2
         go_ret
         exact ⟨ret_bb hr.out.symm, bdraw HB.out _⟩
     · have hr : Hid (rightT n.data.toList l m = false) := Hd (by simp [rightT]; omega)
       have t1 : decide (l ≤ (4 : Int)) = false := by simpa using h2
       go_enter Tryz.func213, Tryz.ntmps213
       go_wp2
       go_quiet (exact (HN _).out.mono fun _ _ h => ⟨h.1, _, h.2.symm⟩)
       go_wp2
       go_ret
       exact ⟨ret_bb hr.out.symm, bdraw HB.out _⟩
   · have hr : Hid (rightT n.data.toList l m = false) := Hd (by simp [rightT]; omega)
     have t1 : decide ((0 : Int) ≤ l) = false := by simpa using h1
     go_enter Tryz.func213, Tryz.ntmps213
     go_wp2
     go_quiet (exact (HN _).out.mono fun _ _ h => ⟨h.1, _, h.2.symm⟩)
     go_wp2
     go_ret
     exact ⟨ret_bb hr.out.symm, bdraw HB.out _⟩
theorem blw (w : World) (o : Obj) : Below w.heap.size w (w.alloc o) := (Below.refl _ _).alloc (Nat.le_refl _) _
theorem ty_cells {w : World} {b : Nat} {x y z : Value} (h : w.heap[b]? = some (.cells #[x, y, z] 39 (0, 0))) : w.cell? ⟨b, 0, none⟩ = some x ∧ w.cell? ⟨b, 1, none⟩ = some y ∧ w.cell? ⟨b, 2, none⟩ = some z ∧ w.frozen? ⟨b, 0, none⟩ = false ∧ w.frozen? ⟨b, 1, none⟩ = false ∧ w.frozen? ⟨b, 2, none⟩ = false := by
 simp [World.cell?, World.frozen?, h]
theorem ty_set {w : World} {b : Nat} {x y z x' y' z' : Value} (h : w.heap[b]? = some (.cells #[x, y, z] 39 (0, 0))) : (((w.setCell ⟨b, 0, none⟩ x').setCell ⟨b, 1, none⟩ y').setCell ⟨b, 2, none⟩ z').heap[b]? = some (.cells #[x', y', z'] 39 (0, 0)) := by
 simp [World.setCell, Array.getElem?_modify, h]
theorem wset_other {w : World} {b c : Nat} {j : Nat} {v : Value} {o : Obj} (h : w.heap[b]? = some o) (hne : c ≠ b) : (w.setCell ⟨c, j, none⟩ v).heap[b]? = some o := by
 simp [World.setCell, Array.getElem?_modify, h, hne]
theorem ret_ty {R : Ending → World → Prop} {fn : Func} {a : Act} {W : World} {x y z : Value} {b : Nat} (hf : fn.results = #[.cell 2 39, .tmp 3]) (h2 : a.tmps.getD 2 undef = .pointer (some ⟨b, 0, none⟩)) (hd : a.defers = [])
  (hc : W.heap[b]? = some (.cells #[x, y, z] 39 (0, 0))) (hR : R (.returned (.tuple #[.agg #[x, y, z], a.tmps.getD 3 undef])) W) : bodyPost Tryz.prog fn R .ret a W := by
 have hl : (loadVar 39 ⟨b, 0, none⟩).run Tryz.prog W = .ok (.agg #[x, y, z]) W :=
  run_loadVar_row W b 39 39 #[x, y, z] (0, 0) _ hc Tryz.underlying39 rfl (by kernel_rfl)
 refine bodyPost_ret ?_ hd hR
 have h2' : a.tmps[2]?.getD undef = .pointer (some ⟨b, 0, none⟩) := by rw [← h2]; simp
 simp [results, hf, h2', asAddr, hl]
theorem ret_ty1 {R : Ending → World → Prop} {fn : Func} {a : Act} {W : World} {x y z : Value} {b : Nat} (hf : fn.results = #[.cell 2 39]) (h2 : a.tmps.getD 2 undef = .pointer (some ⟨b, 0, none⟩)) (hd : a.defers = [])
  (hc : W.heap[b]? = some (.cells #[x, y, z] 39 (0, 0))) (hR : R (.returned (.agg #[x, y, z])) W) : bodyPost Tryz.prog fn R .ret a W := by
 have hl : (loadVar 39 ⟨b, 0, none⟩).run Tryz.prog W = .ok (.agg #[x, y, z]) W :=
  run_loadVar_row W b 39 39 #[x, y, z] (0, 0) _ hc Tryz.underlying39 rfl (by kernel_rfl)
 refine bodyPost_ret ?_ hd hR
 have h2' : a.tmps[2]?.getD undef = .pointer (some ⟨b, 0, none⟩) := by rw [← h2]; simp
 simp [results, hf, h2', asAddr, hl]
def noT : Value := .tuple #[.agg #[.string ⟨#[]⟩, .int .i64 0, .int .i64 0], .bool false]
def yesT (n : ByteArray) (l m : Int) : Value := .tuple #[.agg #[.string n, .int .i64 l, .int .i64 m], .bool true]
def itemV (n : ByteArray) (l m : Int) : Value := if rightT n.data.toList l m = true ∧ l ≠ 0 then yesT n (l - 1) (m / 2) else noT
def listV (n : ByteArray) (l m : Int) : Value := if rightT n.data.toList l m = true ∧ l ≠ 4 then yesT n (l + 1) (m * 2) else noT
theorem new_two (w : World) (o o' : Obj) : ((w.alloc o).alloc o').heap[w.heap.size]? = some o ∧ ((w.alloc o).alloc o').heap[w.heap.size + 1]? = some o' := by
 have h2 := heap_alloc_last (w.alloc o) o'
 have e : (w.alloc o).heap.size = w.heap.size + 1 := by simp
 rw [e] at h2
 refine ⟨?_, h2⟩
 exact ((blw (w.alloc o) o').block w.heap.size (by omega)).trans (heap_alloc_last w o)
theorem wtwo_new {w w2 : World} {x y z x' y' z' : Value} (hb : Below ((w.alloc (.cells #[x, y, z] 39)).alloc (.cells #[x', y', z'] 39)).heap.size ((w.alloc (.cells #[x, y, z] 39)).alloc (.cells #[x', y', z'] 39)) w2) :
  w2.heap[w.heap.size]? = some (.cells #[x, y, z] 39 (0, 0)) ∧ w2.heap[w.heap.size + 1]? = some (.cells #[x', y', z'] 39 (0, 0)) ∧ Below w.heap.size w w2 := by
 obtain ⟨h0, h1⟩ := new_two w (.cells #[x, y, z] 39) (.cells #[x', y', z'] 39)
 have e : ((w.alloc (.cells #[x, y, z] 39)).alloc (.cells #[x', y', z'] 39)).heap.size = w.heap.size + 1 + 1 := by simp
 refine ⟨(hb.block w.heap.size (by omega)).trans h0, (hb.block (w.heap.size + 1) (by omega)).trans h1, below_new.trans ((below_new.mono (by simp)).trans (hb.mono (by omega)))⟩
theorem set3 {B : Nat} {w w2 : World} {b : Nat} (h : Below B w w2) (hb : B ≤ b) (x y z : Value) : Below B w (((w2.setCell ⟨b, 0, none⟩ x).setCell ⟨b, 1, none⟩ y).setCell ⟨b, 2, none⟩ z) := ((h.setCell hb _).setCell hb _).setCell hb _
def mustV (n : ByteArray) (l m : Int) : Value := if rightT n.data.toList l m = true then .agg #[.string n, .int .i64 l, .int .i64 (bits .or .i64 m 1)] else .agg #[.string n, .int .i64 l, .int .i64 m]
set_option maxRecDepth 100000 in
set_option maxHeartbeats 2000000 in
theorem item_any (n : ByteArray) (l m : Int) (w : World) (hn : n.size ≤ 9000) : Calls Tryz.prog 253 #[.agg #[.string n, .int .i64 l, .int .i64 m]] w fun e w' => e = .returned (itemV n l m) ∧ Below w.heap.size w w' := by
 have HR := fun w => Hd (wright_any n l m w hn)
 cases hr : rightT n.data.toList l m
 · have hv : Hid (itemV n l m = noT) := Hd (by simp [itemV, hr])
   rw [hr] at HR
   clear hr
   go_enter Tryz.func253, Tryz.ntmps253
   go_wp2_with fail
   refine (HR _).out.mono ?_
   rintro e w2 ⟨rfl, hb2⟩
   obtain ⟨b0, b1, HB⟩ := wtwo_new hb2
   obtain ⟨a0, a1, a2, g0, g1, g2⟩ := ty_cells b0
   obtain ⟨c0, c1, c2, f0, f1, f2⟩ := ty_cells b1
   have H0 := Hd b0
   have H1 := Hd b1
   have HB' := Hd HB
   clear b0 b1 HB hb2 HR
   go_wp2_with fail
   refine ret_ty rfl rfl rfl (ty_set H1.out) ⟨?_, set3 HB'.out (Nat.le_succ _) _ _ _⟩
   rw [hv.out]
   rfl
 · by_cases hl : l = 0
   · have hv : Hid (itemV n l m = noT) := Hd (by simp [itemV, hl])
     subst hl
     rw [hr] at HR
     clear hr
     go_enter Tryz.func253, Tryz.ntmps253
     go_wp2_with fail
     refine (HR _).out.mono ?_
     rintro e w2 ⟨rfl, hb2⟩
     obtain ⟨b0, b1, HB⟩ := wtwo_new hb2
     obtain ⟨a0, a1, a2, g0, g1, g2⟩ := ty_cells b0
     obtain ⟨c0, c1, c2, f0, f1, f2⟩ := ty_cells b1
     have H0 := Hd b0
     have H1 := Hd b1
     have HB' := Hd HB
     clear b0 b1 HB hb2 HR
     go_wp2_with fail
     refine ret_ty rfl rfl rfl (ty_set H1.out) ⟨?_, set3 HB'.out (Nat.le_succ _) _ _ _⟩
     rw [hv.out]
     rfl
   · have hv : Hid (itemV n l m = yesT n (l - 1) (m / 2)) := Hd (by simp [itemV, hl, hr])
     obtain ⟨s1, s2, s3, s4⟩ := right_small hr
     have e0 : (l == 0) = false := by simpa using hl
     rw [hr] at HR
     clear hr
     go_enter Tryz.func253, Tryz.ntmps253
     go_wp2_with fail
     refine (HR _).out.mono ?_
     rintro e w2 ⟨rfl, hb2⟩
     obtain ⟨b0, b1, HB⟩ := wtwo_new hb2
     obtain ⟨a0, a1, a2, g0, g1, g2⟩ := ty_cells b0
     obtain ⟨c0, c1, c2, f0, f1, f2⟩ := ty_cells b1
     have H0 := Hd b0
     have H1 := Hd b1
     have HB' := Hd HB
     clear b0 b1 HB hb2 HR
     go_wp2_with fail
     refine ret_ty rfl rfl rfl (ty_set (wset_other (wset_other H1.out (by omega)) (by omega))) ⟨?_, set3 ((HB'.out.setCell (Nat.le_refl _) _).setCell (Nat.le_refl _) _) (Nat.le_succ _) _ _ _⟩
     rw [hv.out]
     rfl
set_option maxRecDepth 100000 in
set_option maxHeartbeats 2000000 in
theorem list_any (n : ByteArray) (l m : Int) (w : World) (hn : n.size ≤ 9000) : Calls Tryz.prog 192 #[.agg #[.string n, .int .i64 l, .int .i64 m]] w fun e w' => e = .returned (listV n l m) ∧ Below w.heap.size w w' := by
 have HR := fun w => Hd (wright_any n l m w hn)
 cases hr : rightT n.data.toList l m
 · have hv : Hid (listV n l m = noT) := Hd (by simp [listV, hr])
   rw [hr] at HR
   clear hr
   go_enter Tryz.func192, Tryz.ntmps192
   go_wp2_with fail
   refine (HR _).out.mono ?_
   rintro e w2 ⟨rfl, hb2⟩
   obtain ⟨b0, b1, HB⟩ := wtwo_new hb2
   obtain ⟨a0, a1, a2, g0, g1, g2⟩ := ty_cells b0
   obtain ⟨c0, c1, c2, f0, f1, f2⟩ := ty_cells b1
   have H0 := Hd b0
   have H1 := Hd b1
   have HB' := Hd HB
   clear b0 b1 HB hb2 HR
   go_wp2_with fail
   refine ret_ty rfl rfl rfl (ty_set H1.out) ⟨?_, set3 HB'.out (Nat.le_succ _) _ _ _⟩
   rw [hv.out]
   rfl
 · by_cases hl : l = 4
   · have hv : Hid (listV n l m = noT) := Hd (by simp [listV, hl])
     subst hl
     rw [hr] at HR
     clear hr
     go_enter Tryz.func192, Tryz.ntmps192
     go_wp2_with fail
     refine (HR _).out.mono ?_
     rintro e w2 ⟨rfl, hb2⟩
     obtain ⟨b0, b1, HB⟩ := wtwo_new hb2
     obtain ⟨a0, a1, a2, g0, g1, g2⟩ := ty_cells b0
     obtain ⟨c0, c1, c2, f0, f1, f2⟩ := ty_cells b1
     have H0 := Hd b0
     have H1 := Hd b1
     have HB' := Hd HB
     clear b0 b1 HB hb2 HR
     go_wp2_with fail
     refine ret_ty rfl rfl rfl (ty_set H1.out) ⟨?_, set3 HB'.out (Nat.le_succ _) _ _ _⟩
     rw [hv.out]
     rfl
   · have hv : Hid (listV n l m = yesT n (l + 1) (m * 2)) := Hd (by simp [listV, hl, hr])
     obtain ⟨s1, s2, s3, s4⟩ := right_small hr
     have e0 : (l == 4) = false := by simpa using hl
     rw [hr] at HR
     clear hr
     go_enter Tryz.func192, Tryz.ntmps192
     go_wp2_with fail
     refine (HR _).out.mono ?_
     rintro e w2 ⟨rfl, hb2⟩
     obtain ⟨b0, b1, HB⟩ := wtwo_new hb2
     obtain ⟨a0, a1, a2, g0, g1, g2⟩ := ty_cells b0
     obtain ⟨c0, c1, c2, f0, f1, f2⟩ := ty_cells b1
     have H0 := Hd b0
     have H1 := Hd b1
     have HB' := Hd HB
     clear b0 b1 HB hb2 HR
     go_wp2_with fail
     refine ret_ty rfl rfl rfl (ty_set (wset_other (wset_other H1.out (by omega)) (by omega))) ⟨?_, set3 ((HB'.out.setCell (Nat.le_refl _) _).setCell (Nat.le_refl _) _) (Nat.le_succ _) _ _ _⟩
     rw [hv.out]
     rfl
set_option maxRecDepth 100000 in
set_option maxHeartbeats 2000000 in
theorem must_any (n : ByteArray) (l m : Int) (w : World) (hn : n.size ≤ 9000) : Calls Tryz.prog 193 #[.agg #[.string n, .int .i64 l, .int .i64 m]] w fun e w' => e = .returned (mustV n l m) ∧ Below w.heap.size w w' := by
 have HR := fun w => Hd (wright_any n l m w hn)
 cases hr : rightT n.data.toList l m
 · have hv : Hid (mustV n l m = .agg #[.string n, .int .i64 l, .int .i64 m]) := Hd (by simp [mustV, hr])
   rw [hr] at HR
   clear hr
   go_enter Tryz.func193, Tryz.ntmps193
   go_wp2_with fail
   refine (HR _).out.mono ?_
   rintro e w2 ⟨rfl, hb2⟩
   obtain ⟨b0, b1, HB⟩ := wtwo_new hb2
   obtain ⟨a0, a1, a2, g0, g1, g2⟩ := ty_cells b0
   obtain ⟨c0, c1, c2, f0, f1, f2⟩ := ty_cells b1
   have H0 := Hd b0
   have H1 := Hd b1
   have HB' := Hd HB
   clear b0 b1 HB hb2 HR
   go_wp2_with fail
   refine ret_ty1 rfl rfl rfl (ty_set H1.out) ⟨?_, set3 HB'.out (Nat.le_succ _) _ _ _⟩
   rw [hv.out]
 · have hv : Hid (mustV n l m = .agg #[.string n, .int .i64 l, .int .i64 (bits .or .i64 m 1)]) := Hd (by simp [mustV, hr])
   rw [hr] at HR
   clear hr
   go_enter Tryz.func193, Tryz.ntmps193
   go_wp2_with fail
   refine (HR _).out.mono ?_
   rintro e w2 ⟨rfl, hb2⟩
   obtain ⟨b0, b1, HB⟩ := wtwo_new hb2
   obtain ⟨a0, a1, a2, g0, g1, g2⟩ := ty_cells b0
   obtain ⟨c0, c1, c2, f0, f1, f2⟩ := ty_cells b1
   have H0 := Hd b0
   have H1 := Hd b1
   have HB' := Hd HB
   clear b0 b1 HB hb2 HR
   go_wp2_with fail
   refine ret_ty1 rfl rfl rfl (ty_set (wset_other H1.out (by omega))) ⟨?_, set3 (HB'.out.setCell (Nat.le_refl _) _) (Nat.le_succ _) _ _ _⟩
   rw [hv.out]
theorem right_nat {n : List UInt8} {k q : Nat} (hn : nameB n = true) (hk : k ≤ 4) (hq : q < 2 ^ (k + 1)) : rightT n k q = true := by
 refine right_of hn (by omega) (by omega) (by omega) ?_
 have : ((2 ^ (k + 1) : Nat) : Int) = (2 : Int) ^ (k + 1) := by simp
 simp only [Int.toNat_natCast]
 omega
end Go.Proofs.YtpkmbhnikilihaaGreatDoor
