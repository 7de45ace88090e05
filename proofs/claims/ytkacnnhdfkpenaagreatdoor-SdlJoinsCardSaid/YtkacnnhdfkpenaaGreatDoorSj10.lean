/- The walk of token.Number, for the values. -/
import Derived.Test.YtkacnnhdfkpenaaGreatDoorSj9
import Derived.Lib.ItoaNum
import Derived.Lib.ParseIntB
set_option maxRecDepth 100000
namespace Go.Proofs.YtkacnnhdfkpenaaGreatDoor
open Go.RowKit
theorem vnumber_zero {l:List UInt8} (h:(nbL l).1=0):(nbL l).2=0:=by
 unfold nbL at *
 by_cases h0:(nmL l).1=0
 · rw [if_pos h0]
 · rw [if_neg h0] at h ⊢
   cases hb:behindB (l.drop (nmL l).1)
   · rw [hb] at h;exact absurd h h0
   · rfl
theorem vnumberf_any (s:ByteArray) (w:World) (hs:s.size≤1100000):Calls Tryz.prog 139 #[.string s] w fun e w'=>e=.returned (.int .i64 (kindL s.data.toList))∧Below w.heap.size w w':=by
 have hN:=number_any s w hs
 have hk:kindL s.data.toList=if (nbL s.data.toList).1 < s.size then 0 else (nbL s.data.toList).2:=by unfold kindL;rw [len_data]
 have hz:=fun h=>vnumber_zero (l:=s.data.toList) h
 obtain ⟨n,hn⟩:∃ n,(nbL s.data.toList).1=n:=⟨_,rfl⟩
 obtain ⟨k,hkk⟩:∃ k,(nbL s.data.toList).2=k:=⟨_,rfl⟩
 rw [hn,hkk] at hN hk hz
 have hT:∃ x:ByteArray,tokS k (s.data.toList.take n) n=.tuple #[.agg #[.int .i64 k,.string x],.int .i64 n]:=by
   by_cases h0:n=0
   · rw [hz h0,h0];exact ⟨_,rfl⟩
   · exact ⟨_,tokS_yes h0⟩
 obtain ⟨x,hx⟩:=hT
 rw [hx] at hN
 have HN:=Hd hN
 clear hN hx hz hn hkk
 by_cases hlt:n < s.size
 · have hlt':(n:Int) < (s.size:Int):=by omega
   have hr:Hid (kindL s.data.toList=0):=Hd (by rw [hk,if_pos hlt])
   clear hk
   go_enter Tryz.func139,Tryz.ntmps139
   go_wp2_with fail
   refine HN.out.mono ?_
   rintro e w1 ⟨rfl,hb⟩
   have HB:=Hd hb
   have hbs:=hb.size
   clear hb
   go_wp2_with fail
   go_ret
   exact ⟨ret_i (by rw [hr.out]),HB.out.alloc hbs _⟩
 · have hlt' : ¬ (n:Int) < (s.size:Int):=by omega
   have hr:Hid (kindL s.data.toList=k):=Hd (by rw [hk,if_neg hlt])
   clear hk
   go_enter Tryz.func139,Tryz.ntmps139
   go_wp2_with fail
   refine HN.out.mono ?_
   rintro e w1 ⟨rfl,hb⟩
   have HB:=Hd hb
   have hbs:=hb.size
   clear hb
   go_wp2_with fail
   go_ret
   exact ⟨ret_i (by rw [hr.out]),HB.out.alloc hbs _⟩
def nullL:List UInt8:=[110,117,108,108]
def trueL:List UInt8:=[116,114,117,101]
def falseL:List UInt8:=[102,97,108,115,101]
def enumB (l:List UInt8):Bool:=nameB l && !(l == nullL) && !(l == trueL) && !(l == falseL)
def digN (l:List UInt8):Nat:=l.foldl (fun a b=>a*10+(b.toNat - 48)) 0
def intN:List UInt8→Int
 | []=>0
 | b :: t=>if b=45 then -(digN t:Int) else (digN (b :: t):Int)
def fits64 (z:Int):Bool:=decide (-9223372036854775808≤z∧z≤9223372036854775807)
def numB (l:List UInt8):Bool:=kindL l == 4 || (kindL l == 3 && !fits64 (intN l))
def soundB (k n:Int) (s:List UInt8) (ll ml:Nat):Bool:=
 if k=0 then n == 0 && s.isEmpty && ll == 0 && ml == 0
 else if k=1 then (n == 0 || n == 1) && s.isEmpty && ll == 0 && ml == 0
 else if k=2 then s.isEmpty && ll == 0 && ml == 0
 else if k=3 then n == 0 && numB s && ll == 0 && ml == 0
 else if k=4 then n == 0 && goodB s && ll == 0 && ml == 0
 else if k=5 then n == 0 && enumB s && ll == 0 && ml == 0
 else if k=6 then n == 0 && s.isEmpty && ml == 0
 else if k=7 then n == 0 && s.isEmpty && ll == 0
 else if k=8 then n == 0 && nameB s && ll == 0 && ml == 0
 else false
def VL.app:VL→VL→VL
 | .nil,r=>r
 | .cons v t,r=>.cons v (t.app r)
def VM.vals:VM→VL
 | .nil=>.nil
 | .cons _ v t=>.cons v t.vals
theorem VL.app_nil:∀ l:VL,l.app .nil=l
 | .nil=>rfl
 | .cons v t=>by rw [VL.app,VL.app_nil t]
theorem VL.len_app:∀ l r:VL,(l.app r).len=l.len+r.len
 | .nil,r=>by rw [VL.app,VL.len];omega
 | .cons v t,r=>by rw [VL.app,VL.len,VL.len,VL.len_app t r];omega
theorem VM.len_vals:∀ m:VM,m.vals.len=m.len
 | .nil=>rfl
 | .cons _ _ t=>by rw [VM.vals,VL.len,VM.len,VM.len_vals t]
theorem VM.get_vals:∀ {m:VM} {j:Nat} {nm:ByteArray} {v:VT},m.get j=some (nm,v)→m.vals.get j=some v
 | .nil,_,_,_,h=>by simp [VM.get] at h
 | .cons x u t,0,nm,v,h=>by
   have:x=nm∧u=v:=by simpa [VM.get] using h
   rw [VM.vals,VL.get,this.2]
 | .cons x u t,j+1,nm,v,h=>by
   rw [VM.vals,VL.get];exact VM.get_vals (m:=t) h
def VT.kids:VT→VL
 | .mk k _ _ l m=>if k=6 then l else if k=7 then m.vals else .nil
mutual
def fitV (p:List UInt8→Bool):VT→Bool
 | .mk k n s l m=>soundB k n s.data.toList l.len m.len && fitL p l && fitM p m
def fitL (p:List UInt8→Bool):VL→Bool
 | .nil=>true
 | .cons v t=>fitV p v && fitL p t
def fitM (p:List UInt8→Bool):VM→Bool
 | .nil=>true
 | .cons nm v t=>p nm.data.toList && fitV p v && fitM p t
end
def namesB (p:List UInt8→Bool):VM→Bool
 | .nil=>true
 | .cons nm _ t=>p nm.data.toList && namesB p t
def checkV (p:List UInt8→Bool):VT→Bool
 | .mk k n s l m=>soundB k n s.data.toList l.len m.len && namesB p m
theorem fitM_vals (p:List UInt8→Bool):∀ m:VM,fitM p m=(namesB p m && fitL p m.vals)
 | .nil=>rfl
 | .cons nm v t=>by
   rw [fitM,namesB,VM.vals,fitL,fitM_vals p t]
   cases p nm.data.toList<;>cases fitV p v<;>simp
theorem VL.nil_of_len {l:VL} (h:l.len=0):l=.nil:=by cases l with
 | nil=>rfl
 | cons _ _=>rw [VL.len] at h;omega
theorem VM.nil_of_len {l:VM} (h:l.len=0):l=.nil:=by cases l with
 | nil=>rfl
 | cons _ _ _=>rw [VM.len] at h;omega
theorem sound_l {k n:Int} {s:List UInt8} {ll ml:Nat} (h:soundB k n s ll ml=true) (hk:k ≠ 6):ll=0:=by
 unfold soundB at h
 repeat' split at h
 all_goals first|contradiction|(simp only [Bool.and_eq_true,beq_iff_eq] at h;omega)
theorem sound_m {k n:Int} {s:List UInt8} {ll ml:Nat} (h:soundB k n s ll ml=true) (hk:k ≠ 7):ml=0:=by
 unfold soundB at h
 repeat' split at h
 all_goals first|contradiction|(simp only [Bool.and_eq_true,beq_iff_eq] at h;omega)
theorem fit_kids (p:List UInt8→Bool) (v:VT):fitV p v=(checkV p v && fitL p v.kids):=by
 obtain ⟨k,n,s,l,m⟩:=v
 rw [fitV,checkV,fitM_vals,VT.kids]
 cases hs:soundB k n s.data.toList l.len m.len with
 | false=>simp
 | true =>
   by_cases h6:k=6
   · have hm:=VM.nil_of_len (sound_m hs (by omega))
     subst hm
     rw [if_pos h6];simp [namesB,VM.vals,fitL]
   · have hl:=VL.nil_of_len (sound_l hs h6)
     subst hl
     rw [if_neg h6]
     by_cases h7:k=7
     · rw [if_pos h7];simp [fitL]
     · have hm:=VM.nil_of_len (sound_m hs h7)
       subst hm
       rw [if_neg h7];simp [namesB,VM.vals,fitL]
def checkL (p:List UInt8→Bool):VL→Bool
 | .nil=>true
 | .cons v t=>checkV p v && checkL p t
def kidsL:VL→VL
 | .nil=>.nil
 | .cons v t=>v.kids.app (kidsL t)
theorem fitL_app (p:List UInt8→Bool):∀ l r:VL,fitL p (l.app r)=(fitL p l && fitL p r)
 | .nil,r=>by rw [VL.app,fitL];simp
 | .cons v t,r=>by rw [VL.app,fitL,fitL,fitL_app p t r,Bool.and_assoc]
theorem fit_level (p:List UInt8→Bool):∀ l:VL,fitL p l=(checkL p l && fitL p (kidsL l))
 | .nil=>rfl
 | .cons v t=>by
   rw [fitL,fit_kids,fit_level p t,checkL,kidsL,fitL_app]
   cases checkV p v<;>cases checkL p t<;>simp
theorem sizeL_app:∀ l r:VL,sizeL (l.app r)=sizeL l+sizeL r
 | .nil,r=>by rw [VL.app,sizeL];omega
 | .cons v t,r=>by rw [VL.app,sizeL,sizeL,sizeL_app t r];omega
theorem sizeL_vals:∀ m:VM,sizeL m.vals≤sizeM m
 | .nil=>by rw [VM.vals,sizeL,sizeM];omega
 | .cons nm v t=>by rw [VM.vals,sizeL,sizeM];have:=sizeL_vals t;omega
theorem size_kids (v:VT):sizeL v.kids+1≤sizeV v:=by
 obtain ⟨k,n,s,l,m⟩:=v
 rw [VT.kids,sizeV]
 have:=sizeL_vals m
 split
 · omega
 · split
   · omega
   · rw [sizeL];omega
theorem size_level:∀ l:VL,sizeL (kidsL l)+l.len≤sizeL l
 | .nil=>by rw [kidsL,sizeL,VL.len];omega
 | .cons v t=>by
   rw [kidsL,sizeL,sizeL_app,VL.len]
   have:=size_level t
   have:=size_kids v
   omega
theorem len_size:∀ l:VL,l.len≤sizeL l:=fun l=>by have:=size_level l;omega
def kidsTo:VL→Nat→VL
 | _,0=>.nil
 | .nil,_+1=>.nil
 | .cons v t,j+1=>v.kids.app (kidsTo t j)
def checkTo (p:List UInt8→Bool):VL→Nat→Bool
 | _,0=>true
 | .nil,_+1=>true
 | .cons v t,j+1=>checkV p v && checkTo p t j
theorem kidsTo_zero (l:VL):kidsTo l 0=.nil:=by cases l<;>rfl
theorem checkTo_zero (p:List UInt8→Bool) (l:VL):checkTo p l 0=true:=by cases l<;>rfl
theorem VL.app_assoc:∀ a b c:VL,(a.app b).app c=a.app (b.app c)
 | .nil,b,c=>rfl
 | .cons v t,b,c=>by rw [VL.app,VL.app,VL.app,VL.app_assoc t b c]
theorem kidsTo_next:∀ {l:VL} {j:Nat} {v:VT},l.get j=some v→kidsTo l (j+1)=(kidsTo l j).app v.kids
 | .nil,_,_,h=>by simp [VL.get] at h
 | .cons u t,0,v,h=>by
   have:u=v:=by simpa [VL.get] using h
   subst this
   show u.kids.app (kidsTo t 0)=VL.nil.app u.kids
   rw [kidsTo_zero,VL.app_nil,VL.app]
 | .cons u t,j+1,v,h=>by
   rw [kidsTo,kidsTo_next (l:=t) (j:=j) (v:=v) h,kidsTo,VL.app_assoc]
theorem checkTo_next (p:List UInt8→Bool):∀ {l:VL} {j:Nat} {v:VT},l.get j=some v→checkTo p l (j+1)=(checkTo p l j && checkV p v)
 | .nil,_,_,h=>by simp [VL.get] at h
 | .cons u t,0,v,h=>by
   have:u=v:=by simpa [VL.get] using h
   subst this
   show (checkV p u && checkTo p t 0)=(true && checkV p u)
   rw [checkTo_zero];simp
 | .cons u t,j+1,v,h=>by
   rw [checkTo,checkTo_next p (l:=t) (j:=j) (v:=v) h,checkTo,Bool.and_assoc]
theorem kidsTo_all:∀ l:VL,kidsTo l l.len=kidsL l
 | .nil=>rfl
 | .cons v t=>by rw [VL.len,kidsTo,kidsTo_all t,kidsL]
theorem checkTo_all (p:List UInt8→Bool):∀ l:VL,checkTo p l l.len=checkL p l
 | .nil=>rfl
 | .cons v t=>by rw [VL.len,checkTo,checkTo_all p t,checkL]
theorem check_no (p:List UInt8→Bool):∀ {l:VL} {j:Nat} {v:VT},l.get j=some v→checkV p v=false→fitL p l=false
 | .nil,_,_,h,_=>by simp [VL.get] at h
 | .cons u t,0,v,h,hc=>by
   have:u=v:=by simpa [VL.get] using h
   rw [fitL,fit_kids,this,hc];simp
 | .cons u t,j+1,v,h,hc=>by
   rw [fitL,check_no p (l:=t) (j:=j) h hc];simp
theorem kidsTo_size:∀ (l:VL) (j:Nat),sizeL (kidsTo l j)≤sizeL l
 | .nil,j=>by cases j<;>simp [kidsTo,sizeL]
 | .cons v t,0=>by rw [kidsTo,sizeL];omega
 | .cons v t,j+1=>by
   rw [kidsTo,sizeL_app,sizeL]
   have:=kidsTo_size t j
   have:=size_kids v
   omega
theorem digU_bd {b:UInt8} (h:digU b=true):48≤b.toNat∧b.toNat≤57:=by
 unfold digU digB at h
 have:=of_decide_eq_true h
 omega
def digA (a:Nat) (l:List UInt8):Nat:=l.foldl (fun a b=>a*10+(b.toNat - 48)) a
theorem digA_mono:∀ (l:List UInt8) (a:Nat),a≤digA a l
 | [],a=>Nat.le_refl _
 | b :: l,a=>by
   show a≤digA (a*10+(b.toNat - 48)) l
   have:=digA_mono l (a*10+(b.toNat - 48))
   omega
theorem minus_toNat:(45:UInt8).toNat=45:=rfl
theorem dig_not_minus {b:UInt8} (h:digU b=true):b ≠ 45:=by
 intro e;subst e;have:=digU_bd h;rw [minus_toNat] at this;omega
theorem int_digits {l:List UInt8} (h:l.all digU=true):intN l=(digN l:Int):=by
 cases l with
 | nil=>rfl
 | cons b t =>
   rw [List.all_cons,Bool.and_eq_true] at h
   show (if b=45 then -(digN t:Int) else (digN (b :: t):Int))=_
   rw [if_neg (dig_not_minus h.1)]
theorem int_minus (l:List UInt8):intN (45 :: l) = -(digN l:Int):=by
 show (if (45:UInt8)=45 then -(digN l:Int) else (digN (45 :: l):Int))=_
 rw [if_pos rfl]
theorem all_run {l:List UInt8} (h:runL l=l.length):l.all digU=true:=by
 induction l with
 | nil=>rfl
 | cons b t ih =>
   unfold runL at ih h
   rw [List.takeWhile_cons] at h
   split at h
   · rename_i hb
     rw [List.all_cons,hb,ih (by simpa using h)];rfl
   · simp at h
theorem kind_digits {l:List UInt8} (h:kindL l=3):∃ m,minusL l=m∧(l.drop m).all digU=true∧l.drop m ≠ []:=by
 unfold kindL at h
 split at h
 · omega
 · rename_i hlt
   unfold nbL at h hlt
   split at h
   · simp at h
   · rename_i h0
     rw [if_neg h0] at hlt
     split at h
     · simp at h
     · rename_i hb
       rw [if_neg hb] at hlt
       refine ⟨minusL l,rfl,?_⟩
       by_cases hw:wholeL (l.drop (minusL l))=0
       · exact absurd (by unfold nmL;rw [if_pos hw]) h0
       · unfold nmL at h hlt
         rw [if_neg hw] at h hlt
         simp only at h hlt
         split at h
         · rename_i hfx
           obtain ⟨hf1,hf2⟩:=hfx
           rw [hf1,Nat.add_zero] at hf2
           rw [hf1,Nat.add_zero,hf2,Nat.add_zero] at hlt
           have hwl:=wholeL_le (l.drop (minusL l))
           rw [List.length_drop] at hwl
           have hwe:wholeL (l.drop (minusL l))=(l.drop (minusL l)).length:=by rw [List.length_drop];omega
           generalize l.drop (minusL l)=r at hw hwe
           cases r with
           | nil=>exact absurd rfl hw
           | cons b t =>
             refine ⟨?_,by simp⟩
             by_cases hb:b=48
             · subst hb
               have:wholeL ((48:UInt8) :: t)=1:=rfl
               rw [this] at hwe
               have ht:t=[]:=List.eq_nil_of_length_eq_zero (by rw [List.length_cons] at hwe;omega)
               subst ht;rfl
             · have:wholeL (b :: t)=runL (b :: t):=by
                show (if (b == 48)=true then 1 else runL (b :: t))=_
                rw [if_neg (by simpa using hb)]
               exact all_run (by rw [← this,hwe])
         · simp at h
theorem parseM (l:List UInt8):∀ (a:Nat),a≤18446744073709551615→l.all digU=true→Lib.parseUintM 18446744073709551615 a l=if digA a l≤18446744073709551615 then .ok (digA a l) else .range:=by
 induction l with
 | nil=>intro a ha _;show Lib.NumEnd.ok a=_;rw [show digA a []=a from rfl,if_pos ha]
 | cons b t ih =>
   intro a ha h
   rw [List.all_cons,Bool.and_eq_true] at h
   have hd:=digU_bd h.1
   have hm:digA a (b :: t)=digA (a*10+(b.toNat - 48)) t:=rfl
   have hmono:=digA_mono t (a*10+(b.toNat - 48))
   unfold Lib.parseUintM
   rw [if_pos hd,hm]
   split
   · rw [if_neg (by omega)]
   · split
     · rw [if_neg (by omega)]
     · exact ih _ (by omega) h.2
theorem parse_cons (c:UInt8) (r:List UInt8):Lib.parseIntB 64 (c :: r)=(match Lib.parseUintB 64 (if c.toNat=43∨c.toNat=45 then r else c :: r) with
 | Lib.NumEnd.syntax=>Lib.NumEnd.syntax
 | .range=>.range
 | .ok u=>if ¬ c.toNat=45∧2 ^ (64 - 1)≤u then .range else if c.toNat=45∧2 ^ (64 - 1) < u then .range else .ok (if c.toNat=45 then -(u:Int) else u)):=rfl
theorem parse_mag {r:List UInt8} (hn:r ≠ []) (hd:r.all digU=true):Lib.parseUintB 64 r=if digA 0 r≤18446744073709551615 then .ok (digA 0 r) else .range:=by
 unfold Lib.parseUintB
 rw [if_neg hn]
 exact parseM r 0 (by omega) hd
theorem parse_int {l:List UInt8} (h:kindL l=3):Lib.parseIntB 64 l=if fits64 (intN l)=true then .ok (intN l) else .range:=by
 obtain ⟨m,hm,hd,hn⟩:=kind_digits h
 cases l with
 | nil=>rw [List.drop_nil] at hn;exact absurd rfl hn
 | cons c r =>
   by_cases hc:c=45
   · subst hc
     have:m=1:=hm.symm
     subst this
     rw [show (45 :: r).drop 1=r from rfl] at hd hn
     have hi:intN (45 :: r) = -(digA 0 r:Int):=int_minus r
     rw [hi,parse_cons,if_pos (Or.inr minus_toNat),parse_mag hn hd]
     by_cases h1:digA 0 r≤18446744073709551615
     · rw [if_pos h1]
       simp only [minus_toNat]
       by_cases h2:9223372036854775808 < digA 0 r
       · have hf:fits64 (-(digA 0 r:Int))=false:=by unfold fits64;exact decide_eq_false (by omega)
         rw [hf,if_neg (by simp),if_pos ⟨trivial,by omega⟩,if_neg (by simp)]
       · have hf:fits64 (-(digA 0 r:Int))=true:=by unfold fits64;exact decide_eq_true (by omega)
         rw [hf,if_neg (by simp),if_neg (by omega),if_pos trivial,if_pos rfl]
     · have hf:fits64 (-(digA 0 r:Int))=false:=by unfold fits64;exact decide_eq_false (by omega)
       rw [if_neg h1,hf,if_neg (by simp)]
   · have hm0:m=0:=by rw [← hm];show (if (c == 45)=true then 1 else 0)=0;rw [if_neg (by simpa using hc)]
     subst hm0
     rw [List.drop_zero] at hd
     have hcd:digU c=true:=by rw [List.all_cons,Bool.and_eq_true] at hd;exact hd.1
     have hcb:=digU_bd hcd
     rw [int_digits hd,parse_cons,if_neg (by omega),parse_mag (by simp) hd]
     have hD:digN (c :: r)=digA 0 (c :: r):=rfl
     rw [hD]
     have hc45 : ¬ c.toNat=45:=by omega
     by_cases h1:digA 0 (c :: r)≤18446744073709551615
     · rw [if_pos h1]
       simp only
       by_cases h2:9223372036854775808≤digA 0 (c :: r)
       · have hf:fits64 (digA 0 (c :: r):Int)=false:=by unfold fits64;exact decide_eq_false (by omega)
         rw [hf,if_pos ⟨hc45,by omega⟩,if_neg (by simp)]
       · have hf:fits64 (digA 0 (c :: r):Int)=true:=by unfold fits64;exact decide_eq_true (by omega)
         rw [hf,if_neg (by omega),if_neg (by omega),if_pos rfl,if_neg hc45]
     · have hf:fits64 (digA 0 (c :: r):Int)=false:=by unfold fits64;exact decide_eq_false (by omega)
       rw [if_neg h1,hf,if_neg (by simp)]
end Go.Proofs.YtkacnnhdfkpenaaGreatDoor
