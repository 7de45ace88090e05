/- Plain mathematics of values: whether a value is good, level by level; how deep it is; its variables. -/
import Derived.Test.YtaekdfcpbepepaaGreatDoorQb12
import Derived.Lib.ItoaNum
import Derived.Lib.ParseIntB
set_option maxRecDepth 100000
set_option maxHeartbeats 1000000
namespace Go.Proofs.YtaekdfcpbepepaaGreatDoor
def nullL:List UInt8:=[110,117,108,108]
def trueL:List UInt8:=[116,114,117,101]
def falseL:List UInt8:=[102,97,108,115,101]
def enumB (l:List UInt8):Bool:=nameB l && !(l == nullL) && !(l == trueL) && !(l == falseL)
def digN (l:List UInt8):Nat:=l.foldl (fun a b=>a*10+(b.toNat - 48)) 0
def intN:List UInt8→Int
 | []=>0
 | b :: t=>if b=45 then -(digN t:Int) else (digN (b :: t):Int)
def fits64 (z:Int):Bool:=decide (-9223372036854775808≤z∧z≤9223372036854775807)
def numB (l:List UInt8):Bool:=kindL l == 4 || (kindL l == 3 && !fits64 (intN l))
def soundB (k n:Int) (s:List UInt8) (ll ml:Nat):Bool:=
 if k=0 then n == 0 && s.isEmpty && ll == 0 && ml == 0
 else if k=1 then (n == 0 || n == 1) && s.isEmpty && ll == 0 && ml == 0
 else if k=2 then s.isEmpty && ll == 0 && ml == 0
 else if k=3 then n == 0 && numB s && ll == 0 && ml == 0
 else if k=4 then n == 0 && goodB s && ll == 0 && ml == 0
 else if k=5 then n == 0 && enumB s && ll == 0 && ml == 0
 else if k=6 then n == 0 && s.isEmpty && ml == 0
 else if k=7 then n == 0 && s.isEmpty && ll == 0
 else if k=8 then n == 0 && nameB s && ll == 0 && ml == 0
 else false
def VL.app:VL→VL→VL
 | .nil,r=>r
 | .cons v t,r=>.cons v (t.app r)
def VM.vals:VM→VL
 | .nil=>.nil
 | .cons _ v t=>.cons v t.vals
theorem VL.app_nil:∀ l:VL,l.app .nil=l
 | .nil=>rfl
 | .cons v t=>by rw [VL.app,VL.app_nil t]
theorem VL.len_app:∀ l r:VL,(l.app r).len=l.len+r.len
 | .nil,r=>by rw [VL.app,VL.len];omega
 | .cons v t,r=>by rw [VL.app,VL.len,VL.len,VL.len_app t r];omega
theorem VM.len_vals:∀ m:VM,m.vals.len=m.len
 | .nil=>rfl
 | .cons _ _ t=>by rw [VM.vals,VL.len,VM.len,VM.len_vals t]
theorem VM.get_vals:∀ {m:VM} {j:Nat} {nm:ByteArray} {v:VT},m.get j=some (nm,v)→m.vals.get j=some v
 | .nil,_,_,_,h=>by simp [VM.get] at h
 | .cons x u t,0,nm,v,h=>by
   have:x=nm∧u=v:=by simpa [VM.get] using h
   rw [VM.vals,VL.get,this.2]
 | .cons x u t,j+1,nm,v,h=>by
   rw [VM.vals,VL.get];exact VM.get_vals (m:=t) h
def VT.kids:VT→VL
 | .mk k _ _ l m=>if k=6 then l else if k=7 then m.vals else .nil
mutual
def fitV (p:List UInt8→Bool):VT→Bool
 | .mk k n s l m=>soundB k n s.data.toList l.len m.len && fitL p l && fitM p m
def fitL (p:List UInt8→Bool):VL→Bool
 | .nil=>true
 | .cons v t=>fitV p v && fitL p t
def fitM (p:List UInt8→Bool):VM→Bool
 | .nil=>true
 | .cons nm v t=>p nm.data.toList && fitV p v && fitM p t
end
def namesB (p:List UInt8→Bool):VM→Bool
 | .nil=>true
 | .cons nm _ t=>p nm.data.toList && namesB p t
def checkV (p:List UInt8→Bool):VT→Bool
 | .mk k n s l m=>soundB k n s.data.toList l.len m.len && namesB p m
theorem fitM_vals (p:List UInt8→Bool):∀ m:VM,fitM p m=(namesB p m && fitL p m.vals)
 | .nil=>rfl
 | .cons nm v t=>by
   rw [fitM,namesB,VM.vals,fitL,fitM_vals p t]
   cases p nm.data.toList<;>cases fitV p v<;>simp
theorem VL.nil_of_len {l:VL} (h:l.len=0):l=.nil:=by cases l with
 | nil=>rfl
 | cons _ _=>rw [VL.len] at h;omega
theorem VM.nil_of_len {l:VM} (h:l.len=0):l=.nil:=by cases l with
 | nil=>rfl
 | cons _ _ _=>rw [VM.len] at h;omega
theorem sound_l {k n:Int} {s:List UInt8} {ll ml:Nat} (h:soundB k n s ll ml=true) (hk:k ≠ 6):ll=0:=by
 unfold soundB at h
 repeat' split at h
 all_goals first|contradiction|(simp only [Bool.and_eq_true,beq_iff_eq] at h;omega)
theorem sound_m {k n:Int} {s:List UInt8} {ll ml:Nat} (h:soundB k n s ll ml=true) (hk:k ≠ 7):ml=0:=by
 unfold soundB at h
 repeat' split at h
 all_goals first|contradiction|(simp only [Bool.and_eq_true,beq_iff_eq] at h;omega)
theorem fit_kids (p:List UInt8→Bool) (v:VT):fitV p v=(checkV p v && fitL p v.kids):=by
 obtain ⟨k,n,s,l,m⟩:=v
 rw [fitV,checkV,fitM_vals,VT.kids]
 cases hs:soundB k n s.data.toList l.len m.len with
 | false=>simp
 | true =>
   by_cases h6:k=6
   · have hm:=VM.nil_of_len (sound_m hs (by omega))
     subst hm
     rw [if_pos h6];simp [namesB,VM.vals,fitL]
   · have hl:=VL.nil_of_len (sound_l hs h6)
     subst hl
     rw [if_neg h6]
     by_cases h7:k=7
     · rw [if_pos h7];simp [fitL]
     · have hm:=VM.nil_of_len (sound_m hs h7)
       subst hm
       rw [if_neg h7];simp [namesB,VM.vals,fitL]
def checkL (p:List UInt8→Bool):VL→Bool
 | .nil=>true
 | .cons v t=>checkV p v && checkL p t
def kidsL:VL→VL
 | .nil=>.nil
 | .cons v t=>v.kids.app (kidsL t)
theorem fitL_app (p:List UInt8→Bool):∀ l r:VL,fitL p (l.app r)=(fitL p l && fitL p r)
 | .nil,r=>by rw [VL.app,fitL];simp
 | .cons v t,r=>by rw [VL.app,fitL,fitL,fitL_app p t r,Bool.and_assoc]
theorem fit_level (p:List UInt8→Bool):∀ l:VL,fitL p l=(checkL p l && fitL p (kidsL l))
 | .nil=>rfl
 | .cons v t=>by
   rw [fitL,fit_kids,fit_level p t,checkL,kidsL,fitL_app]
   cases checkV p v<;>cases checkL p t<;>simp
theorem sizeL_app:∀ l r:VL,sizeL (l.app r)=sizeL l+sizeL r
 | .nil,r=>by rw [VL.app,sizeL];omega
 | .cons v t,r=>by rw [VL.app,sizeL,sizeL,sizeL_app t r];omega
theorem sizeL_vals:∀ m:VM,sizeL m.vals≤sizeM m
 | .nil=>by rw [VM.vals,sizeL,sizeM];omega
 | .cons nm v t=>by rw [VM.vals,sizeL,sizeM];have:=sizeL_vals t;omega
theorem size_kids (v:VT):sizeL v.kids+1≤sizeV v:=by
 obtain ⟨k,n,s,l,m⟩:=v
 rw [VT.kids,sizeV]
 have:=sizeL_vals m
 split
 · omega
 · split
   · omega
   · rw [sizeL];omega
theorem size_level:∀ l:VL,sizeL (kidsL l)+l.len≤sizeL l
 | .nil=>by rw [kidsL,sizeL,VL.len];omega
 | .cons v t=>by
   rw [kidsL,sizeL,sizeL_app,VL.len]
   have:=size_level t
   have:=size_kids v
   omega
theorem len_size:∀ l:VL,l.len≤sizeL l:=fun l=>by have:=size_level l;omega
def kidsTo:VL→Nat→VL
 | _,0=>.nil
 | .nil,_+1=>.nil
 | .cons v t,j+1=>v.kids.app (kidsTo t j)
def checkTo (p:List UInt8→Bool):VL→Nat→Bool
 | _,0=>true
 | .nil,_+1=>true
 | .cons v t,j+1=>checkV p v && checkTo p t j
theorem kidsTo_zero (l:VL):kidsTo l 0=.nil:=by cases l<;>rfl
theorem checkTo_zero (p:List UInt8→Bool) (l:VL):checkTo p l 0=true:=by cases l<;>rfl
theorem VL.app_assoc:∀ a b c:VL,(a.app b).app c=a.app (b.app c)
 | .nil,b,c=>rfl
 | .cons v t,b,c=>by rw [VL.app,VL.app,VL.app,VL.app_assoc t b c]
theorem kidsTo_next:∀ {l:VL} {j:Nat} {v:VT},l.get j=some v→kidsTo l (j+1)=(kidsTo l j).app v.kids
 | .nil,_,_,h=>by simp [VL.get] at h
 | .cons u t,0,v,h=>by
   have:u=v:=by simpa [VL.get] using h
   subst this
   show u.kids.app (kidsTo t 0)=VL.nil.app u.kids
   rw [kidsTo_zero,VL.app_nil,VL.app]
 | .cons u t,j+1,v,h=>by
   rw [kidsTo,kidsTo_next (l:=t) (j:=j) (v:=v) h,kidsTo,VL.app_assoc]
theorem checkTo_next (p:List UInt8→Bool):∀ {l:VL} {j:Nat} {v:VT},l.get j=some v→checkTo p l (j+1)=(checkTo p l j && checkV p v)
 | .nil,_,_,h=>by simp [VL.get] at h
 | .cons u t,0,v,h=>by
   have:u=v:=by simpa [VL.get] using h
   subst this
   show (checkV p u && checkTo p t 0)=(true && checkV p u)
   rw [checkTo_zero];simp
 | .cons u t,j+1,v,h=>by
   rw [checkTo,checkTo_next p (l:=t) (j:=j) (v:=v) h,checkTo,Bool.and_assoc]
theorem kidsTo_all:∀ l:VL,kidsTo l l.len=kidsL l
 | .nil=>rfl
 | .cons v t=>by rw [VL.len,kidsTo,kidsTo_all t,kidsL]
theorem checkTo_all (p:List UInt8→Bool):∀ l:VL,checkTo p l l.len=checkL p l
 | .nil=>rfl
 | .cons v t=>by rw [VL.len,checkTo,checkTo_all p t,checkL]
theorem check_no (p:List UInt8→Bool):∀ {l:VL} {j:Nat} {v:VT},l.get j=some v→checkV p v=false→fitL p l=false
 | .nil,_,_,h,_=>by simp [VL.get] at h
 | .cons u t,0,v,h,hc=>by
   have:u=v:=by simpa [VL.get] using h
   rw [fitL,fit_kids,this,hc];simp
 | .cons u t,j+1,v,h,hc=>by
   rw [fitL,check_no p (l:=t) (j:=j) h hc];simp
theorem kidsTo_size:∀ (l:VL) (j:Nat),sizeL (kidsTo l j)≤sizeL l
 | .nil,j=>by cases j<;>simp [kidsTo,sizeL]
 | .cons v t,0=>by rw [kidsTo,sizeL];omega
 | .cons v t,j+1=>by
   rw [kidsTo,sizeL_app,sizeL]
   have:=kidsTo_size t j
   have:=size_kids v
   omega
mutual
def depV:VT→Nat
 | .mk k _ _ l m=>if k=6 then depL l+1 else if k=7 then depM m+1 else 0
def depL:VL→Nat
 | .nil=>0
 | .cons v t=>max (depV v) (depL t)
def depM:VM→Nat
 | .nil=>0
 | .cons _ v t=>max (depV v) (depM t)
end
theorem depM_vals:∀ m:VM,depM m=depL m.vals
 | .nil=>rfl
 | .cons _ v t=>by rw [depM,VM.vals,depL,depM_vals t]
def depTo:VL→Nat→Nat
 | _,0=>0
 | .nil,_+1=>0
 | .cons v t,j+1=>max (depV v) (depTo t j)
theorem depTo_zero (l:VL):depTo l 0=0:=by cases l<;>rfl
theorem depTo_next:∀ {l:VL} {j:Nat} {v:VT},l.get j=some v→depTo l (j+1)=max (depTo l j) (depV v)
 | .nil,_,_,h=>by simp [VL.get] at h
 | .cons u t,0,v,h=>by
   have:u=v:=by simpa [VL.get] using h
   subst this
   show max (depV u) (depTo t 0)=max 0 (depV u)
   rw [depTo_zero];omega
 | .cons u t,j+1,v,h=>by
   rw [depTo,depTo_next (l:=t) (j:=j) (v:=v) h,depTo];omega
theorem depTo_all:∀ l:VL,depTo l l.len=depL l
 | .nil=>rfl
 | .cons v t=>by rw [VL.len,depTo,depTo_all t,depL]
theorem dep_kids (k n:Int) (s:ByteArray) (l:VL) (m:VM) (h:k=6∨k=7):depV (.mk k n s l m)=depL (VT.kids (.mk k n s l m))+1:=by
 rw [depV,VT.kids]
 rcases h with h|h
 · rw [if_pos h,if_pos h]
 · rw [if_neg (by omega),if_pos h,if_neg (by omega),if_pos h,depM_vals]
mutual
theorem dep_size:∀ v:VT,depV v≤sizeV v
 | .mk k n s l m=>by
   rw [depV,sizeV]
   have:=depL_size l
   have:=depM_size m
   split
   · omega
   · split<;>omega
theorem depL_size:∀ l:VL,depL l≤sizeL l
 | .nil=>by rw [depL];omega
 | .cons v t=>by
   rw [depL,sizeL]
   have:=dep_size v
   have:=depL_size t
   omega
theorem depM_size:∀ l:VM,depM l≤sizeM l
 | .nil=>by rw [depM];omega
 | .cons nm v t=>by
   rw [depM,sizeM]
   have:=dep_size v
   have:=depM_size t
   omega
end
def hasV (out:List ByteArray) (s:ByteArray):Bool:=out.any fun t=>t.data.toList == s.data.toList
theorem hasV_iff {out:List ByteArray} {s:ByteArray} : hasV out s=true ↔ s ∈ out:=by
 unfold hasV
 rw [List.any_eq_true]
 constructor
 · rintro ⟨t,h,e⟩
   have:t=s:=ByteArray.ext (Array.toList_inj.1 (by simpa using e))
   rwa [← this]
 · intro h
   exact ⟨s,h,by simp⟩
def addV (out:List ByteArray) (s:ByteArray):List ByteArray:=if hasV out s=true then out else out++[s]
mutual
def allV:VT→List ByteArray
 | .mk k _ s l m=>if k=8 then [s] else if k=6 then allL l else if k=7 then allM m else []
def allL:VL→List ByteArray
 | .nil=>[]
 | .cons v t=>allV v++allL t
def allM:VM→List ByteArray
 | .nil=>[]
 | .cons _ v t=>allV v++allM t
end
theorem allM_vals:∀ m:VM,allM m=allL m.vals
 | .nil=>rfl
 | .cons _ v t=>by rw [allM,VM.vals,allL,allM_vals t]
def varsV (v:VT) (out:List ByteArray):List ByteArray:=(allV v).foldl addV out
theorem all_kids (v:VT):allV v=(match v with | .mk k _ s _ _=>if k=8 then [s] else [])++allL v.kids:=by
 obtain ⟨k,n,s,l,m⟩:=v
 rw [allV,VT.kids]
 by_cases h8:k=8
 · rw [if_pos h8,if_neg (by omega),if_neg (by omega)];simp [h8,allL]
 · rw [if_neg h8]
   simp only [h8,if_false,List.nil_append]
   by_cases h6:k=6
   · simp [h6]
   · by_cases h7:k=7
     · simp [h7,allM_vals]
     · simp [h6,h7,allL]
def allTo:VL→Nat→List ByteArray
 | _,0=>[]
 | .nil,_+1=>[]
 | .cons v t,j+1=>allV v++allTo t j
theorem allTo_zero (l:VL):allTo l 0=[]:=by cases l<;>rfl
theorem allTo_next:∀ {l:VL} {j:Nat} {v:VT},l.get j=some v→allTo l (j+1)=allTo l j++allV v
 | .nil,_,_,h=>by simp [VL.get] at h
 | .cons u t,0,v,h=>by
   have:u=v:=by simpa [VL.get] using h
   subst this
   show allV u++allTo t 0=[]++allV u
   rw [allTo_zero];simp
 | .cons u t,j+1,v,h=>by
   rw [allTo,allTo_next (l:=t) (j:=j) (v:=v) h,allTo,List.append_assoc]
theorem allTo_all:∀ l:VL,allTo l l.len=allL l
 | .nil=>rfl
 | .cons v t=>by rw [VL.len,allTo,allTo_all t,allL]
theorem varsL_snoc {l:VL} {j:Nat} {v:VT} (h:l.get j=some v) (out:List ByteArray):(allTo l (j+1)).foldl addV out=varsV v ((allTo l j).foldl addV out):=by
 rw [allTo_next h,List.foldl_append,varsV]
theorem addsV_len:∀ (l out:List ByteArray),(l.foldl addV out).length≤out.length+l.length
 | [],_=>Nat.le_refl _
 | s :: l,out=>by
   rw [List.foldl_cons]
   have:=addsV_len l (addV out s)
   have:(addV out s).length≤out.length+1:=by unfold addV;split<;>simp
   simp only [List.length_cons];omega
mutual
theorem all_len:∀ v:VT,(allV v).length≤sizeV v
 | .mk k n s l m=>by
   rw [allV,sizeV]
   have:=allL_len l
   have:=allM_len m
   split
   · simp;omega
   · split
     · omega
     · split
       · omega
       · simp
theorem allL_len:∀ l:VL,(allL l).length≤sizeL l
 | .nil=>by simp [allL]
 | .cons v t=>by
   rw [allL,sizeL,List.length_append]
   have:=all_len v
   have:=allL_len t
   omega
theorem allM_len:∀ l:VM,(allM l).length≤sizeM l
 | .nil=>by simp [allM]
 | .cons nm v t=>by
   rw [allM,sizeM,List.length_append]
   have:=all_len v
   have:=allM_len t
   omega
end
theorem digU_bd {b:UInt8} (h:digU b=true):48≤b.toNat∧b.toNat≤57:=by
 unfold digU digB at h
 have:=of_decide_eq_true h
 omega
def digA (a:Nat) (l:List UInt8):Nat:=l.foldl (fun a b=>a*10+(b.toNat - 48)) a
theorem digA_mono:∀ (l:List UInt8) (a:Nat),a≤digA a l
 | [],a=>Nat.le_refl _
 | b :: l,a=>by
   show a≤digA (a*10+(b.toNat - 48)) l
   have:=digA_mono l (a*10+(b.toNat - 48))
   omega
theorem minus_toNat:(45:UInt8).toNat=45:=rfl
theorem dig_not_minus {b:UInt8} (h:digU b=true):b ≠ 45:=by
 intro e;subst e;have:=digU_bd h;rw [minus_toNat] at this;omega
theorem int_digits {l:List UInt8} (h:l.all digU=true):intN l=(digN l:Int):=by
 cases l with
 | nil=>rfl
 | cons b t =>
   rw [List.all_cons,Bool.and_eq_true] at h
   show (if b=45 then -(digN t:Int) else (digN (b :: t):Int))=_
   rw [if_neg (dig_not_minus h.1)]
theorem int_minus (l:List UInt8):intN (45 :: l) = -(digN l:Int):=by
 show (if (45:UInt8)=45 then -(digN l:Int) else (digN (45 :: l):Int))=_
 rw [if_pos rfl]
theorem all_run {l:List UInt8} (h:runL l=l.length):l.all digU=true:=by
 induction l with
 | nil=>rfl
 | cons b t ih =>
   unfold runL at ih h
   rw [List.takeWhile_cons] at h
   split at h
   · rename_i hb
     rw [List.all_cons,hb,ih (by simpa using h)];rfl
   · simp at h
theorem kind_digits {l:List UInt8} (h:kindL l=3):∃ m,minusL l=m∧(l.drop m).all digU=true∧l.drop m ≠ []:=by
 unfold kindL at h
 split at h
 · omega
 · rename_i hlt
   unfold nbL at h hlt
   split at h
   · simp at h
   · rename_i h0
     rw [if_neg h0] at hlt
     split at h
     · simp at h
     · rename_i hb
       rw [if_neg hb] at hlt
       refine ⟨minusL l,rfl,?_⟩
       by_cases hw:wholeL (l.drop (minusL l))=0
       · exact absurd (by unfold nmL;rw [if_pos hw]) h0
       · unfold nmL at h hlt
         rw [if_neg hw] at h hlt
         simp only at h hlt
         split at h
         · rename_i hfx
           obtain ⟨hf1,hf2⟩:=hfx
           rw [hf1,Nat.add_zero] at hf2
           rw [hf1,Nat.add_zero,hf2,Nat.add_zero] at hlt
           have hwl:=wholeL_le (l.drop (minusL l))
           rw [List.length_drop] at hwl
           have hwe:wholeL (l.drop (minusL l))=(l.drop (minusL l)).length:=by rw [List.length_drop];omega
           generalize l.drop (minusL l)=r at hw hwe
           cases r with
           | nil=>exact absurd rfl hw
           | cons b t =>
             refine ⟨?_,by simp⟩
             by_cases hb:b=48
             · subst hb
               have:wholeL ((48:UInt8) :: t)=1:=rfl
               rw [this] at hwe
               have ht:t=[]:=List.eq_nil_of_length_eq_zero (by rw [List.length_cons] at hwe;omega)
               subst ht;rfl
             · have:wholeL (b :: t)=runL (b :: t):=by
                show (if (b == 48)=true then 1 else runL (b :: t))=_
                rw [if_neg (by simpa using hb)]
               exact all_run (by rw [← this,hwe])
         · simp at h
theorem parseM (l:List UInt8):∀ (a:Nat),a≤18446744073709551615→l.all digU=true→Lib.parseUintM 18446744073709551615 a l=if digA a l≤18446744073709551615 then .ok (digA a l) else .range:=by
 induction l with
 | nil=>intro a ha _;show Lib.NumEnd.ok a=_;rw [show digA a []=a from rfl,if_pos ha]
 | cons b t ih =>
   intro a ha h
   rw [List.all_cons,Bool.and_eq_true] at h
   have hd:=digU_bd h.1
   have hm:digA a (b :: t)=digA (a*10+(b.toNat - 48)) t:=rfl
   have hmono:=digA_mono t (a*10+(b.toNat - 48))
   unfold Lib.parseUintM
   rw [if_pos hd,hm]
   split
   · rw [if_neg (by omega)]
   · split
     · rw [if_neg (by omega)]
     · exact ih _ (by omega) h.2
theorem parse_cons (c:UInt8) (r:List UInt8):Lib.parseIntB 64 (c :: r)=(match Lib.parseUintB 64 (if c.toNat=43∨c.toNat=45 then r else c :: r) with
 | Lib.NumEnd.syntax=>Lib.NumEnd.syntax
 | .range=>.range
 | .ok u=>if ¬ c.toNat=45∧2 ^ (64 - 1)≤u then .range else if c.toNat=45∧2 ^ (64 - 1) < u then .range else .ok (if c.toNat=45 then -(u:Int) else u)):=rfl
theorem parse_mag {r:List UInt8} (hn:r ≠ []) (hd:r.all digU=true):Lib.parseUintB 64 r=if digA 0 r≤18446744073709551615 then .ok (digA 0 r) else .range:=by
 unfold Lib.parseUintB
 rw [if_neg hn]
 exact parseM r 0 (by omega) hd
theorem parse_int {l:List UInt8} (h:kindL l=3):Lib.parseIntB 64 l=if fits64 (intN l)=true then .ok (intN l) else .range:=by
 obtain ⟨m,hm,hd,hn⟩:=kind_digits h
 cases l with
 | nil=>rw [List.drop_nil] at hn;exact absurd rfl hn
 | cons c r =>
   by_cases hc:c=45
   · subst hc
     have:m=1:=hm.symm
     subst this
     rw [show (45 :: r).drop 1=r from rfl] at hd hn
     have hi:intN (45 :: r) = -(digA 0 r:Int):=int_minus r
     rw [hi,parse_cons,if_pos (Or.inr minus_toNat),parse_mag hn hd]
     by_cases h1:digA 0 r≤18446744073709551615
     · rw [if_pos h1]
       simp only [minus_toNat]
       by_cases h2:9223372036854775808 < digA 0 r
       · have hf:fits64 (-(digA 0 r:Int))=false:=by unfold fits64;exact decide_eq_false (by omega)
         rw [hf,if_neg (by simp),if_pos ⟨trivial,by omega⟩,if_neg (by simp)]
       · have hf:fits64 (-(digA 0 r:Int))=true:=by unfold fits64;exact decide_eq_true (by omega)
         rw [hf,if_neg (by simp),if_neg (by omega),if_pos trivial,if_pos rfl]
     · have hf:fits64 (-(digA 0 r:Int))=false:=by unfold fits64;exact decide_eq_false (by omega)
       rw [if_neg h1,hf,if_neg (by simp)]
   · have hm0:m=0:=by rw [← hm];show (if (c == 45)=true then 1 else 0)=0;rw [if_neg (by simpa using hc)]
     subst hm0
     rw [List.drop_zero] at hd
     have hcd:digU c=true:=by rw [List.all_cons,Bool.and_eq_true] at hd;exact hd.1
     have hcb:=digU_bd hcd
     rw [int_digits hd,parse_cons,if_neg (by omega),parse_mag (by simp) hd]
     have hD:digN (c :: r)=digA 0 (c :: r):=rfl
     rw [hD]
     have hc45 : ¬ c.toNat=45:=by omega
     by_cases h1:digA 0 (c :: r)≤18446744073709551615
     · rw [if_pos h1]
       simp only
       by_cases h2:9223372036854775808≤digA 0 (c :: r)
       · have hf:fits64 (digA 0 (c :: r):Int)=false:=by unfold fits64;exact decide_eq_false (by omega)
         rw [hf,if_pos ⟨hc45,by omega⟩,if_neg (by simp)]
       · have hf:fits64 (digA 0 (c :: r):Int)=true:=by unfold fits64;exact decide_eq_true (by omega)
         rw [hf,if_neg (by omega),if_neg (by omega),if_pos rfl,if_neg hc45]
     · have hf:fits64 (digA 0 (c :: r):Int)=false:=by unfold fits64;exact decide_eq_false (by omega)
       rw [if_neg h1,hf,if_neg (by simp)]
def nullT:ByteArray:=⟨#[110,117,108,108]⟩
def trueT:ByteArray:=⟨#[116,114,117,101]⟩
def falseT:ByteArray:=⟨#[102,97,108,115,101]⟩
def openT:ByteArray:=⟨#[91]⟩
def shutT:ByteArray:=⟨#[93]⟩
def openM:ByteArray:=⟨#[123]⟩
def shutM:ByteArray:=⟨#[125]⟩
def colonT:ByteArray:=⟨#[58]⟩
def dollarT:ByteArray:=⟨#[36]⟩
def itoaT (n:Int):ByteArray:=⟨(Lib.itoa n).toArray⟩
mutual
def vtok:VT→List (Int × ByteArray)
 | .mk k n s l m =>
   if k=0 then [(2,nullT)] else if k=1 then [(2,if n=1 then trueT else falseT)] else if k=2 then [(3,itoaT n)]
   else if k=3 then [(kindL s.data.toList,s)] else if k=4 then [(5,s)] else if k=5 then [(2,s)]
   else if k=6 then (1,openT) :: (vtokL l++[(1,shutT)]) else if k=7 then (1,openM) :: (vtokM m++[(1,shutM)])
   else if k=8 then [(1,dollarT),(2,s)] else []
def vtokL:VL→List (Int × ByteArray)
 | .nil=>[]
 | .cons v t=>vtok v++vtokL t
def vtokM:VM→List (Int × ByteArray)
 | .nil=>[]
 | .cons nm v t=>(2,nm) :: (1,colonT) :: (vtok v++vtokM t)
end
mutual
def RngV:VT→Prop
 | .mk _ n _ l m=>(-9223372036854775808≤n∧n≤9223372036854775807)∧RngL l∧RngM m
def RngL:VL→Prop
 | .nil=>True
 | .cons v t=>RngV v∧RngL t
def RngM:VM→Prop
 | .nil=>True
 | .cons _ v t=>RngV v∧RngM t
end
open Go.RowKit
def tab:List Int:=[0,128,0,192,224,128,224,240,2048,240,248,65536]
def TabAt (w:World):Prop:=∀ (j:Nat) z,tab[j]? = some z→w.cell? ⟨0,j,none⟩=some (.int .i64 z)
def cells:Array Value:=#[.int .i64 0,.int .i64 128,.int .i64 0,.int .i64 192,.int .i64 224,.int .i64 128,.int .i64 224,.int .i64 240,.int .i64 2048,.int .i64 240,.int .i64 248,.int .i64 65536]
theorem idx0 (w:World):(Instr.index 225 (.agg cells) (.int .i64 0)).run Tryz.prog w=.ok (.agg #[.int .i64 0,.int .i64 128,.int .i64 0]) w:=by kernel_rfl
theorem idx1 (w:World):(Instr.index 225 (.agg cells) (.int .i64 1)).run Tryz.prog w=.ok (.agg #[.int .i64 192,.int .i64 224,.int .i64 128]) w:=by kernel_rfl
theorem idx2 (w:World):(Instr.index 225 (.agg cells) (.int .i64 2)).run Tryz.prog w=.ok (.agg #[.int .i64 224,.int .i64 240,.int .i64 2048]) w:=by kernel_rfl
theorem idx3 (w:World):(Instr.index 225 (.agg cells) (.int .i64 3)).run Tryz.prog w=.ok (.agg #[.int .i64 240,.int .i64 248,.int .i64 65536]) w:=by kernel_rfl
theorem idx {n:Nat} (hn:n < 4) (w:World):(Instr.index 225 (.agg cells) (.int .i64 n)).run Tryz.prog w=.ok (.agg #[.int .i64 (lead n),.int .i64 (mask n),.int .i64 (least n)]) w:=by
 match n,hn with
 | 0,_=>exact idx0 w
 | 1,_=>exact idx1 w
 | 2,_=>exact idx2 w
 | 3,_=>exact idx3 w
theorem bne_no {a b:Int} (h:a=b):(a != b)=false:=by simp [h]
theorem bne_yes {a b:Int} (h : ¬ a=b):(a != b)=true:=by simp [h]
theorem ret_pair {a b c d:Int} {w w':World} {B:Nat} {p:Int × Int} (h:(c,d)=p) (ha:a=c) (hb:b=d) (hw:Below B w w') :
 Ending.returned (.tuple #[.int .i64 a,.int .i64 b])=.returned (.tuple #[.int .i64 p.1,.int .i64 p.2])∧Below B w w':=by subst h ha hb;exact ⟨rfl,hw⟩
theorem code_in (s:ByteArray) (i:Nat) (w:World) (hs:s.size≤1100000) (hi:i < s.size) (ht:TabAt w) :
  Calls Tryz.prog 229 #[.string s,.int .i64 i] w fun e w'=>e=.returned (.tuple #[.int .i64 (dec (s.data.toList.drop i)).1,.int .i64 (dec (s.data.toList.drop i)).2])∧Below w.heap.size w w':=by
 have t0:=ht 0 _ rfl
 have t1:=ht 1 _ rfl
 have t2:=ht 2 _ rfl
 have t3:=ht 3 _ rfl
 have t4:=ht 4 _ rfl
 have t5:=ht 5 _ rfl
 have t6:=ht 6 _ rfl
 have t7:=ht 7 _ rfl
 have t8:=ht 8 _ rfl
 have t9:=ht 9 _ rfl
 have t10:=ht 10 _ rfl
 have t11:=ht 11 _ rfl
 clear ht
 have hlen:Hid ((s.data.toList.drop i).length=s.size - i):=Hd (by rw [List.length_drop,Lib.size_eq])
 have hb0:=byt_lt (s.data.toList.drop i) 0
 have e0:(s[i].toNat:Int)=byt (s.data.toList.drop i) 0:=byt_drop s i 0 hi
 have eb:=byt_drop s i
 generalize hl:s.data.toList.drop i=l at *
 have HL:=Hd hl
 clear hl
 have EB:=Hd eb
 clear eb
 have E0:=Hd e0
 clear e0
 have hb0':=hb0.1
 have hb0'':=hb0.2
 clear hb0
 have g1:(s[i].toNat:Int) < 256:=by rw [E0.out];exact hb0''
 have d1:decide (s.size≤i)=false:=by simpa using hi
 have d2:decide ((i:Int) < 0)=false:=by simp
 go_enter Tryz.func229,Tryz.ntmps229
 go_wp2
 go_step3
 go_wp2
 go_step3
 go_wp2
 clear t0 t1 t2 t3 t4 t5 t6 t7 t8 t9 t10 t11
 go_loopg [21] 4 (fun g k wx=>∃ n:Nat,n+g=4∧k=.int .i64 n∧Below w.heap.size w wx∧Aside (noneTo l n))
 case atStart=>exact ⟨0,by omega,rfl,Below.refl _ _,Aside.intro (fun j hj=>by omega)⟩
 case round =>
  obtain ⟨n,hn,rfl,hb,HN⟩:=hrel
  have e0:=E0.out
  cases gk with
  | zero =>
    obtain rfl:n=4:=by omega
    have hd:=Hd (dec_none HN.out)
    clear HN e0
    go_wp2
    try rw [Exit.noGoto_ret]
    go_ret2
    exact ret_pair hd.out.symm rfl rfl hb
  | succ g =>
    have hn4:n < 4:=by omega
    have hn4':(n:Int) < 4:=by omega
    have ix:=idx hn4
    unfold cells at ix
    have hm:=and_mask hn4 hb0' hb0''
    have hb2:=fun (o:Obj)=>hb.alloc hb.size o
    by_cases hL:leads n (byt l 0)
    · have m1 := bne_no (hm.1.2 hL)
      have m2:=hm.2 hL
      clear hm
      by_cases hk:n < s.size - i
      · have hk' : (n:Int) < (s.size:Int) - (i:Int):=by omega
        have d3:decide ((s.size:Int) - (i:Int)≤(n:Int))=false:=by simp;omega
        have hb3:=Hd hb2
        clear hb2
        go_wp2
        clear ix m1 m2 e0
        go_loopg [9,10] n (fun g2 c k wy=>∃ j:Nat,1≤j∧j+g2=n+1∧k=.int .i64 j∧c=.int .i64 (acc l (byt l 0 - lead n) j)∧Aside (contTo l j=true) ∧
         wr.alloc (.cells #[.int .i64 (lead n),.int .i64 (mask n),.int .i64 (least n)] 224)=wy)
        case atStart=>exact ⟨1,by omega,by omega,rfl,rfl,Aside.intro rfl,rfl⟩
        case round =>
         obtain ⟨j,hj1,hjg,rfl,rfl,HC,rfl⟩:=hrel
         have hls:=Hd (leads_bd hL)
         have hsm:=acc_small (l:=l) hls.out.1 hls.out.2 (by omega) HC.out
         have hsm1:=hsm.1
         have hsm2:=hsm.2
         clear hsm
         cases gk with
         | zero =>
           obtain rfl:j=n+1:=by omega
           have hy:=fun h=>Hd (dec_some hn4 HN.out (decK_yes (by rw [hlen.out];exact hk) hL HC.out h))
           have hnf:=fun h=>Hd (noneTo_succ HN.out (decK_fair (l:=l) (k:=n) h))
           unfold fair at hy hnf
           generalize acc l (byt l 0 - lead n) (n+1)=C at *
           clear HC HN
           by_cases f1:least n≤C
           · by_cases f2:C≤1114111
             · cases f3:halfB C
               · have hy2:=hy ⟨f1,f2,f3⟩
                 clear hy hnf
                 go_wp2_with (go_at_call 240;refine (half_any _ _).mono ?_;rintro e w' ⟨rfl,rfl⟩)
                 try rw [Exit.noGoto_ret]
                 go_ret2
                 exact ret_pair hy2.out.symm rfl rfl (hb3.out _)
               · have hn2:=hnf (by rintro ⟨_,_,h⟩;rw [f3] at h;cases h)
                 clear hy hnf
                 go_wp2_with (go_at_call 240;refine (half_any _ _).mono ?_;rintro e w' ⟨rfl,rfl⟩)
                 go_roundg g
                 case measure=>omega
                 case rel=>exact ⟨n+1,by omega,by go_num,hb3.out _,Aside.intro hn2.out⟩
             · have hn2:=hnf (by rintro ⟨_,h,_⟩;exact f2 h)
               clear hy hnf
               go_wp2_with (go_at_call 240;refine (half_any _ _).mono ?_;rintro e w' ⟨rfl,rfl⟩)
               go_roundg g
               case measure=>omega
               case rel=>exact ⟨n+1,by omega,by go_num,hb3.out _,Aside.intro hn2.out⟩
           · have hn2:=hnf (by rintro ⟨h,_,_⟩;exact f1 h)
             clear hy hnf
             go_wp2_with (go_at_call 240;refine (half_any _ _).mono ?_;rintro e w' ⟨rfl,rfl⟩)
             go_roundg g
             case measure=>omega
             case rel=>exact ⟨n+1,by omega,by go_num,hb3.out _,Aside.intro hn2.out⟩
         | succ g2 =>
           have hjn:(j:Int)≤(n:Int):=by omega
           have hij:i+j < s.size:=by omega
           have ej:=EB.out j hij
           have hbj:=byt_lt l j
           have hbj1:=hbj.1
           have hbj2:=hbj.2
           clear hbj
           have htl:=and_tail hbj1 hbj2
           by_cases hc:contB (byt l j)=true
           · have m1:=bne_no (htl.1.2 hc)
             have m2:=htl.2 hc
             have hcc:128≤byt l j∧byt l j≤191:=by simpa [contB] using hc
             have m3:=or_six (c:=acc l (byt l 0 - lead n) j) (d:=byt l j - 128) (by omega) (by omega) (by omega) (by omega)
             have hx:=Hd hcc
             have hs1:=Hd (acc_succ (l:=l) (c:=byt l 0 - lead n) hj1)
             have hs2:=Hd (contTo_succ hj1 HC.out hc)
             clear htl hc hcc HC
             go_wp2
             go_roundg g2
             case measure=>omega
             case rel=>exact ⟨j+1,by omega,by omega,by go_num,by rw [hs1.out],Aside.intro hs2.out,rfl⟩
           · have m1:=bne_yes (fun h=>hc (htl.1.1 h))
             have hn2:=Hd (noneTo_succ HN.out (decK_cont (k:=n) hj1 (by omega) hc))
             clear htl hc HC HN
             go_wp2
             go_roundg g
             case measure=>omega
             case rel=>exact ⟨n+1,by omega,by go_num,hb3.out _,Aside.intro hn2.out⟩
      · have hk' : ¬ ((n:Int) < (s.size:Int) - (i:Int)):=by omega
        have hn2:=Hd (noneTo_succ HN.out (decK_short (l:=l) (k:=n) (by rw [hlen.out];exact hk)))
        have hb3:=Hd hb2
        clear HN hb2
        go_wp2
        go_roundg g
        case measure=>omega
        case rel=>exact ⟨n+1,by omega,by go_num,hb3.out _,Aside.intro hn2.out⟩
    · have m1:=bne_yes (fun h=>hL (hm.1.1 h))
      have hn2:=Hd (noneTo_succ HN.out (decK_leads hL))
      have hb3:=Hd hb2
      clear hm HN hb2
      go_wp2
      go_roundg g
      case measure=>omega
      case rel=>exact ⟨n+1,by omega,by go_num,hb3.out _,Aside.intro hn2.out⟩
theorem TabAt.lt {w:World} (h:TabAt w):0 < w.heap.size:=by
 rcases Nat.lt_or_ge 0 w.heap.size with h'|h'
 · exact h'
 · have:=h 0 0 rfl
   simp [World.cell?,Array.getElem?_eq_none h'] at this
theorem TabAt.below {w w':World} {B:Nat} (h:TabAt w) (hb:Below B w w') (hB:0 < B):TabAt w':=fun j z hz=>(hb.cell (p:=⟨0,j,none⟩) hB).trans (h j z hz)
theorem each_pure (fn:Nat) (p:Int→Bool) (he:∀ args w,(callFunc fn args).run Tryz.prog w=.ok (.enter fn args) w) (hp:∀ (c:Int) (w:World),Calls Tryz.prog fn #[.int .i64 c] w fun e w'=>e=.returned (.bool (p c))∧w=w') (s:ByteArray) (w:World) (hs:s.size≤1100000) (ht:TabAt w) :
  Calls Tryz.prog 202 #[.string s,.func (.func fn) #[] #[]] w fun e w'=>e=.returned (.bool (eachP p s.data.toList))∧Below w.heap.size w w':=by
 have HP:=Hd hp
 have HT:=Hd ht
 clear hp ht
 have hlen:s.data.toList.length=s.size:=Array.length_toList
 have HL:=Hd hlen
 clear hlen
 go_enter Tryz.func202,Tryz.ntmps202
 go_wp2
 go_loopg [5] s.size (fun g i wx=>∃ k:Nat,k+g=s.size∧i=.int .i64 k∧Below w.heap.size w wx∧Aside (eachP p (s.data.toList.drop k)=eachP p s.data.toList))
 case atStart=>exact ⟨0,by omega,rfl,Below.refl _ _,Aside.intro rfl⟩
 case round =>
  obtain ⟨k,hk,rfl,hb,H⟩:=hrel
  cases gk with
  | zero =>
    obtain rfl:k=s.size:=by omega
    have h2:Hid (eachP p s.data.toList=true):=Hd (by rw [← H.out,List.drop_eq_nil_of_le (by rw [HL.out];omega)];rfl)
    clear H
    go_wp2
    go_ret
    exact ⟨ret_bool h2.out.symm,hb⟩
  | succ g =>
    have hlt:k < s.size:=by omega
    have hlt':(k:Int) < (s.size:Int):=by omega
    have hne:Hid (s.data.toList.drop k ≠ []):=Hd (fun e=>by have:=congrArg List.length e;rw [List.length_drop,HL.out] at this;simp at this;omega)
    have hdl:Hid ((s.data.toList.drop k).length=s.size - k):=Hd (by rw [List.length_drop,HL.out])
    have hbd:=dec_bd (s.data.toList.drop k)
    have hcode:=code_in s k wr hs hlt (HT.out.below hb HT.out.lt)
    have hst:=Hd (eachP_step (p:=p) (l:=s.data.toList.drop k) hne.out)
    have hbad:=Hd (eachP_bad (p:=p) (l:=s.data.toList.drop k) hne.out)
    generalize dec (s.data.toList.drop k)=d at *
    obtain ⟨c,n⟩:=d
    simp only at hbd hcode hst hbad
    obtain ⟨b1,b2,b3,b4,b5,b6⟩:=hbd
    rw [hdl.out] at b3
    have HC:=Hd hcode
    clear hcode b6
    by_cases hn:n=0
    · have hfin:Hid (eachP p s.data.toList=false):=Hd (by rw [← H.out];exact hbad.out hn)
      have z0:(n == 0)=true:=by simp [hn]
      clear H hst hbad hn
      go_wp2_with fail
      refine HC.out.mono ?_
      rintro e w1 ⟨rfl,hb1⟩
      go_wp2_with fail
      go_ret
      exact ⟨ret_bool hfin.out.symm,hb.trans (hb1.mono hb.size)⟩
    · have z0:(n == 0)=false:=by simp [hn]
      cases hpc:p c
      · have hfin:Hid (eachP p s.data.toList=false):=Hd (by rw [← H.out,hst.out hn,hpc];rfl)
        have hpc':=Hd hpc
        clear H hst hbad hn hpc
        go_wp2_with fail
        refine HC.out.mono ?_
        rintro e w1 ⟨rfl,hb1⟩
        go_wp2_with fail
        refine (HP.out _ _).mono ?_
        rintro e w2 ⟨rfl,rfl⟩
        rw [hpc'.out]
        go_wp2_with fail
        go_ret
        exact ⟨ret_bool hfin.out.symm,hb.trans (hb1.mono hb.size)⟩
      · have hfin:Hid (eachP p ((s.data.toList.drop k).drop n.toNat)=eachP p s.data.toList):=Hd (by rw [← H.out,hst.out hn,hpc];rfl)
        have hpc':=Hd hpc
        have hn1:1≤n:=by omega
        clear H hst hbad hn hpc
        go_wp2_with fail
        refine HC.out.mono ?_
        rintro e w1 ⟨rfl,hb1⟩
        go_wp2_with fail
        refine (HP.out _ _).mono ?_
        rintro e w2 ⟨rfl,rfl⟩
        rw [hpc'.out]
        go_wp2_with fail
        obtain ⟨m,rfl⟩:=Int.eq_ofNat_of_zero_le b1
        go_roundg (s.size - (k+m))
        case measure=>omega
        case rel=>exact ⟨k+m,by omega,by go_num,hb.trans (hb1.mono hb.size),Aside.intro (by rw [← hfin.out,List.drop_drop];rfl)⟩
theorem goodFn (c:Int) (w:World):Calls Tryz.prog 203 #[.int .i64 c] w fun e w'=>e=.returned (.bool ((fun _=>true) c))∧w=w':=by
 go_enter Tryz.func203,Tryz.ntmps203
 go_wp2
 go_ret
 exact ⟨rfl,rfl⟩
theorem good_any (s:ByteArray) (w:World) (hs:s.size≤1100000) (ht:TabAt w):Calls Tryz.prog 177 #[.string s] w fun e w'=>e=.returned (.bool (goodB s.data.toList))∧Below w.heap.size w w':=by
 have H:=Hd (each_pure 203 (fun _=>true) (Go.Proofs.enters_of Tryz.func203 (by kernel_rfl) rfl) goodFn s w hs ht)
 go_enter Tryz.func177,Tryz.ntmps177
 go_wp2_with fail
 refine H.out.mono ?_
 rintro e w' ⟨rfl,hb⟩
 go_wp2_with fail
 go_ret
 exact ⟨rfl,hb⟩
end Go.Proofs.YtaekdfcpbepepaaGreatDoor
