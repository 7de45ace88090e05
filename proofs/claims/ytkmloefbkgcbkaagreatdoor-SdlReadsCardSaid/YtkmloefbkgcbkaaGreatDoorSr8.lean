/- The walk of token.Number, for the values. -/
import Derived.Test.YtkmloefbkgcbkaaGreatDoorSr7
import Derived.Lib.ItoaNum
import Derived.Lib.ParseIntB
import Derived.Shelf.Strconv.ParseIntPublic10
import Derived.Shelf.Strconv.Itoa4
import Derived.Lib.LaidTab
import Derived.Lib.SmallJoins
import Derived.Lib.AtoiErrMem
set_option maxRecDepth 100000
set_option maxHeartbeats 4000000
namespace Go.Proofs.YtkmloefbkgcbkaaGreatDoor
open Go.RowKit
theorem Zqa {l:List UInt8} (h:(nbL l).1=0):(nbL l).2=0:=by
 unfold nbL at *
 by_cases h0:(nmL l).1=0
 · rw [if_pos h0]
 · rw [if_neg h0] at h ⊢
   cases hb:Jx (l.drop (nmL l).1)
   · rw [hb] at h;exact absurd h h0
   · rfl
theorem Th (s:ByteArray) (w:World) (hs:s.size≤1100000):Calls Tryz.prog 186 #[.string s] w fun e w'=>e=.returned (.int .i64 (Jf s.data.toList))∧Below w.heap.size w w':=by
 have hN:=Pt s w hs;have hk:Jf s.data.toList=if (nbL s.data.toList).1 < s.size then 0 else (nbL s.data.toList).2:=by unfold Jf;rw [Z7]
 have hz:=fun h=>Zqa (l:=s.data.toList) h;obtain ⟨n,hn⟩:∃ n,(nbL s.data.toList).1=n:=⟨_,rfl⟩;obtain ⟨k,hkk⟩:∃ k,(nbL s.data.toList).2=k:=⟨_,rfl⟩;rw [hn,hkk] at hN hk hz
 have hT:∃ x:ByteArray,Zzh k (s.data.toList.take n) n=.tuple #[.agg #[.int .i64 k,.string x],.int .i64 n]:=by
   by_cases h0:n=0
   · rw [hz h0,h0];exact ⟨_,rfl⟩
   · exact ⟨_,Il h0⟩
 obtain ⟨x,hx⟩:=hT;rw [hx] at hN;have HN:=Hd hN;clear hN hx hz hn hkk
 by_cases hlt:n < s.size
 · have hlt':(n:Int) < (s.size:Int):=by omega
   have hr:Hid (Jf s.data.toList=0):=Hd (by rw [hk,if_pos hlt]);clear hk
   go_enter Tryz.func186,Tryz.ntmps186
   go_wp2_with fail
   refine HN.out.mono ?_;rintro e w1 ⟨rfl,hb⟩;have HB:=Hd hb;have hbs:=hb.size;clear hb;go_wp2_with fail
   go_ret
   exact ⟨Jg (by rw [hr.out]),HB.out.alloc hbs _⟩
 · have hlt' : ¬ (n:Int) < (s.size:Int):=by omega
   have hr:Hid (Jf s.data.toList=k):=Hd (by rw [hk,if_neg hlt]);clear hk
   go_enter Tryz.func186,Tryz.ntmps186
   go_wp2_with fail
   refine HN.out.mono ?_;rintro e w1 ⟨rfl,hb⟩;have HB:=Hd hb;have hbs:=hb.size;clear hb;go_wp2_with fail
   go_ret
   exact ⟨Jg (by rw [hr.out]),HB.out.alloc hbs _⟩
def Rg:List UInt8:=[110,117,108,108]
def St:List UInt8:=[116,114,117,101]
def Md:List UInt8:=[102,97,108,115,101]
def Zju (l:List UInt8):Bool:=Jv l && !(l == Rg) && !(l == St) && !(l == Md)
def Ych (l:List UInt8):Nat:=l.foldl (fun a b=>a*10+(b.toNat - 48)) 0
def Aj:List UInt8→Int
 | []=>0
 | b :: t=>if b=45 then -(Ych t:Int) else (Ych (b :: t):Int)
def Xt (z:Int):Bool:=decide (-9223372036854775808≤z∧z≤9223372036854775807)
def Yeg (l:List UInt8):Bool:=Jf l == 4 || (Jf l == 3 && !Xt (Aj l))
def Yx (k n:Int) (s:List UInt8) (ll ml:Nat):Bool:=
 if k=0 then n == 0 && s.isEmpty && ll == 0 && ml == 0
 else if k=1 then (n == 0 || n == 1) && s.isEmpty && ll == 0 && ml == 0
 else if k=2 then s.isEmpty && ll == 0 && ml == 0
 else if k=3 then n == 0 && Yeg s && ll == 0 && ml == 0
 else if k=4 then n == 0 && Zm s && ll == 0 && ml == 0
 else if k=5 then n == 0 && Zju s && ll == 0 && ml == 0
 else if k=6 then n == 0 && s.isEmpty && ml == 0
 else if k=7 then n == 0 && s.isEmpty && ll == 0
 else if k=8 then n == 0 && Jv s && ll == 0 && ml == 0
 else false
def VL.app:VL→VL→VL
 | .nil,r=>r
 | .cons v t,r=>.cons v (t.app r)
def VM.vals:VM→VL
 | .nil=>.nil
 | .cons _ v t=>.cons v t.vals
theorem VL.app_nil:∀ l:VL,l.app .nil=l
 | .nil=>rfl
 | .cons v t=>by rw [VL.app,VL.app_nil t]
theorem VL.len_app:∀ l r:VL,(l.app r).len=l.len+r.len
 | .nil,r=>by rw [VL.app,VL.len];omega
 | .cons v t,r=>by rw [VL.app,VL.len,VL.len,VL.len_app t r];omega
theorem VM.len_vals:∀ m:VM,m.vals.len=m.len
 | .nil=>rfl
 | .cons _ _ t=>by rw [VM.vals,VL.len,VM.len,VM.len_vals t]
theorem VM.get_vals:∀ {m:VM} {j:Nat} {nm:ByteArray} {v:VT},m.get j=some (nm,v)→m.vals.get j=some v
 | .nil,_,_,_,h=>by simp [VM.get] at h
 | .cons x u t,0,nm,v,h=>by
   have:x=nm∧u=v:=by simpa [VM.get] using h
   rw [VM.vals,VL.get,this.2]
 | .cons x u t,j+1,nm,v,h=>by
   rw [VM.vals,VL.get];exact VM.get_vals (m:=t) h
def VT.kids:VT→VL
 | .mk k _ _ l m=>if k=6 then l else if k=7 then m.vals else .nil
mutual
def Zv9 (p:List UInt8→Bool):VT→Bool
 | .mk k n s l m=>Yx k n s.data.toList l.len m.len && Dl p l && Yof p m
def Dl (p:List UInt8→Bool):VL→Bool
 | .nil=>true
 | .cons v t=>Zv9 p v && Dl p t
def Yof (p:List UInt8→Bool):VM→Bool
 | .nil=>true
 | .cons nm v t=>p nm.data.toList && Zv9 p v && Yof p t
end
def Un (p:List UInt8→Bool):VM→Bool
 | .nil=>true
 | .cons nm _ t=>p nm.data.toList && Un p t
def Ff (p:List UInt8→Bool):VT→Bool
 | .mk k n s l m=>Yx k n s.data.toList l.len m.len && Un p m
theorem Zz2 (p:List UInt8→Bool):∀ m:VM,Yof p m=(Un p m && Dl p m.vals)
 | .nil=>rfl
 | .cons nm v t=>by
   rw [Yof,Un,VM.vals,Dl,Zz2 p t]
   cases p nm.data.toList<;>cases Zv9 p v<;>simp
theorem VL.nil_of_len {l:VL} (h:l.len=0):l=.nil:=by cases l with
 | nil=>rfl
 | cons _ _=>rw [VL.len] at h;omega
theorem VM.nil_of_len {l:VM} (h:l.len=0):l=.nil:=by cases l with
 | nil=>rfl
 | cons _ _ _=>rw [VM.len] at h;omega
theorem Ylr {k n:Int} {s:List UInt8} {ll ml:Nat} (h:Yx k n s ll ml=true) (hk:k ≠ 6):ll=0:=by
 unfold Yx at h
 repeat' split at h
 all_goals first|contradiction|(simp only [Bool.and_eq_true,beq_iff_eq] at h;omega)
theorem Ydv {k n:Int} {s:List UInt8} {ll ml:Nat} (h:Yx k n s ll ml=true) (hk:k ≠ 7):ml=0:=by
 unfold Yx at h
 repeat' split at h
 all_goals first|contradiction|(simp only [Bool.and_eq_true,beq_iff_eq] at h;omega)
theorem Zv5 (p:List UInt8→Bool) (v:VT):Zv9 p v=(Ff p v && Dl p v.kids):=by
 obtain ⟨k,n,s,l,m⟩:=v;rw [Zv9,Ff,Zz2,VT.kids]
 cases hs:Yx k n s.data.toList l.len m.len with
 | false=>simp
 | true =>
   by_cases h6:k=6
   · have hm:=VM.nil_of_len (Ydv hs (by omega))
     subst hm;rw [if_pos h6];simp [Un,VM.vals,Dl]
   · have hl:=VL.nil_of_len (Ylr hs h6)
     subst hl;rw [if_neg h6]
     by_cases h7:k=7
     · rw [if_pos h7];simp [Dl]
     · have hm:=VM.nil_of_len (Ydv hs h7)
       subst hm;rw [if_neg h7];simp [Un,VM.vals,Dl]
def Bi (p:List UInt8→Bool):VL→Bool
 | .nil=>true
 | .cons v t=>Ff p v && Bi p t
def Nl:VL→VL
 | .nil=>.nil
 | .cons v t=>v.kids.app (Nl t)
theorem Zxw (p:List UInt8→Bool):∀ l r:VL,Dl p (l.app r)=(Dl p l && Dl p r)
 | .nil,r=>by rw [VL.app,Dl];simp
 | .cons v t,r=>by rw [VL.app,Dl,Dl,Zxw p t r,Bool.and_assoc]
theorem Zqf (p:List UInt8→Bool):∀ l:VL,Dl p l=(Bi p l && Dl p (Nl l))
 | .nil=>rfl
 | .cons v t=>by
   rw [Dl,Zv5,Zqf p t,Bi,Nl,Zxw]
   cases Ff p v<;>cases Bi p t<;>simp
theorem Mj:∀ l r:VL,Jo (l.app r)=Jo l+Jo r
 | .nil,r=>by rw [VL.app,Jo];omega
 | .cons v t,r=>by rw [VL.app,Jo,Jo,Mj t r];omega
theorem Px:∀ m:VM,Jo m.vals≤Ea m
 | .nil=>by rw [VM.vals,Jo,Ea];omega
 | .cons nm v t=>by rw [VM.vals,Jo,Ea];have:=Px t;omega
theorem Ag (v:VT):Jo v.kids+1≤Uq v:=by
 obtain ⟨k,n,s,l,m⟩:=v;rw [VT.kids,Uq];have:=Px m
 split
 · omega
 · split
   · omega
   · rw [Jo];omega
theorem Oe:∀ l:VL,Jo (Nl l)+l.len≤Jo l
 | .nil=>by rw [Nl,Jo,VL.len];omega
 | .cons v t=>by
   rw [Nl,Jo,Mj,VL.len];have:=Oe t;have:=Ag v;omega
theorem Qy:∀ l:VL,l.len≤Jo l:=fun l=>by have:=Oe l;omega
def Vm:VL→Nat→VL
 | _,0=>.nil
 | .nil,_+1=>.nil
 | .cons v t,j+1=>v.kids.app (Vm t j)
def Iz (p:List UInt8→Bool):VL→Nat→Bool
 | _,0=>true
 | .nil,_+1=>true
 | .cons v t,j+1=>Ff p v && Iz p t j
theorem C0 (l:VL):Vm l 0=.nil:=by cases l<;>rfl
theorem Om (p:List UInt8→Bool) (l:VL):Iz p l 0=true:=by cases l<;>rfl
theorem VL.app_assoc:∀ a b c:VL,(a.app b).app c=a.app (b.app c)
 | .nil,b,c=>rfl
 | .cons v t,b,c=>by rw [VL.app,VL.app,VL.app,VL.app_assoc t b c]
theorem Bk:∀ {l:VL} {j:Nat} {v:VT},l.get j=some v→Vm l (j+1)=(Vm l j).app v.kids
 | .nil,_,_,h=>by simp [VL.get] at h
 | .cons u t,0,v,h=>by
   have:u=v:=by simpa [VL.get] using h
   subst this
   show u.kids.app (Vm t 0)=VL.nil.app u.kids;rw [C0,VL.app_nil,VL.app]
 | .cons u t,j+1,v,h=>by
   rw [Vm,Bk (l:=t) (j:=j) (v:=v) h,Vm,VL.app_assoc]
theorem D9 (p:List UInt8→Bool):∀ {l:VL} {j:Nat} {v:VT},l.get j=some v→Iz p l (j+1)=(Iz p l j && Ff p v)
 | .nil,_,_,h=>by simp [VL.get] at h
 | .cons u t,0,v,h=>by
   have:u=v:=by simpa [VL.get] using h
   subst this
   show (Ff p u && Iz p t 0)=(true && Ff p u);rw [Om];simp
 | .cons u t,j+1,v,h=>by
   rw [Iz,D9 p (l:=t) (j:=j) (v:=v) h,Iz,Bool.and_assoc]
theorem Ep:∀ l:VL,Vm l l.len=Nl l
 | .nil=>rfl
 | .cons v t=>by rw [VL.len,Vm,Ep t,Nl]
theorem Ml (p:List UInt8→Bool):∀ l:VL,Iz p l l.len=Bi p l
 | .nil=>rfl
 | .cons v t=>by rw [VL.len,Iz,Ml p t,Bi]
theorem Zx9 (p:List UInt8→Bool):∀ {l:VL} {j:Nat} {v:VT},l.get j=some v→Ff p v=false→Dl p l=false
 | .nil,_,_,h,_=>by simp [VL.get] at h
 | .cons u t,0,v,h,hc=>by
   have:u=v:=by simpa [VL.get] using h
   rw [Dl,Zv5,this,hc];simp
 | .cons u t,j+1,v,h,hc=>by
   rw [Dl,Zx9 p (l:=t) (j:=j) h hc];simp
theorem Mq:∀ (l:VL) (j:Nat),Jo (Vm l j)≤Jo l
 | .nil,j=>by cases j<;>simp [Vm,Jo]
 | .cons v t,0=>by rw [Vm,Jo];omega
 | .cons v t,j+1=>by
   rw [Vm,Mj,Jo];have:=Mq t j;have:=Ag v;omega
theorem Qk {b:UInt8} (h:Ip b=true):48≤b.toNat∧b.toNat≤57:=by
 unfold Ip Ro at h;have:=of_decide_eq_true h;omega
def Dg (a:Nat) (l:List UInt8):Nat:=l.foldl (fun a b=>a*10+(b.toNat - 48)) a
theorem Zzf:∀ (l:List UInt8) (a:Nat),a≤Dg a l
 | [],a=>Nat.le_refl _
 | b :: l,a=>by
   show a≤Dg (a*10+(b.toNat - 48)) l;have:=Zzf l (a*10+(b.toNat - 48));omega
theorem Gz:(45:UInt8).toNat=45:=rfl
theorem Rs {b:UInt8} (h:Ip b=true):b ≠ 45:=by
 intro e;subst e;have:=Qk h;rw [Gz] at this;omega
theorem O1 {l:List UInt8} (h:l.all Ip=true):Aj l=(Ych l:Int):=by
 cases l with
 | nil=>rfl
 | cons b t =>
   rw [List.all_cons,Bool.and_eq_true] at h
   show (if b=45 then -(Ych t:Int) else (Ych (b :: t):Int))=_;rw [if_neg (Rs h.1)]
theorem By (l:List UInt8):Aj (45 :: l) = -(Ych l:Int):=by
 show (if (45:UInt8)=45 then -(Ych l:Int) else (Ych (45 :: l):Int))=_;rw [if_pos rfl]
theorem Ym7 {l:List UInt8} (h:Xe l=l.length):l.all Ip=true:=by
 induction l with
 | nil=>rfl
 | cons b t ih =>
   unfold Xe at ih h;rw [List.takeWhile_cons] at h
   split at h
   · rename_i hb
     rw [List.all_cons,hb,ih (by simpa using h)];rfl
   · simp at h
theorem C7 {l : List UInt8} (h:Jf l=3):∃ m,Zu l=m∧(l.drop m).all Ip=true∧l.drop m ≠ []:=by
 unfold Jf at h
 split at h
 · omega
 · rename_i hlt
   unfold nbL at h hlt
   split at h
   · simp at h
   · rename_i h0
     rw [if_neg h0] at hlt
     split at h
     · simp at h
     · rename_i hb
       rw [if_neg hb] at hlt;refine ⟨Zu l,rfl,?_⟩
       by_cases hw:Yc (l.drop (Zu l))=0
       · exact absurd (by unfold nmL;rw [if_pos hw]) h0
       · unfold nmL at h hlt
         rw [if_neg hw] at h hlt;simp only at h hlt
         split at h
         · rename_i hfx
           obtain ⟨hf1,hf2⟩:=hfx;rw [hf1,Nat.add_zero] at hf2;rw [hf1,Nat.add_zero,hf2,Nat.add_zero] at hlt;have hwl:=Bg (l.drop (Zu l));rw [List.length_drop] at hwl;have hwe:Yc (l.drop (Zu l))=(l.drop (Zu l)).length:=by rw [List.length_drop];omega
           generalize l.drop (Zu l)=r at hw hwe
           cases r with
           | nil=>exact absurd rfl hw
           | cons b t =>
             refine ⟨?_,by simp⟩
             by_cases hb:b=48
             · subst hb
               have:Yc ((48:UInt8) :: t)=1:=rfl;rw [this] at hwe;have ht:t=[]:=List.eq_nil_of_length_eq_zero (by rw [List.length_cons] at hwe;omega);subst ht;rfl
             · have:Yc (b :: t)=Xe (b :: t):=by
                show (if (b == 48)=true then 1 else Xe (b :: t))=_;rw [if_neg (by simpa using hb)]
               exact Ym7 (by rw [← this,hwe])
         · simp at h
theorem Yo2 (l:List UInt8):∀ (a:Nat),a≤18446744073709551615→l.all Ip=true→Lib.parseUintM 18446744073709551615 a l=if Dg a l≤18446744073709551615 then .ok (Dg a l) else .range:=by
 induction l with
 | nil=>intro a ha _;show Lib.NumEnd.ok a=_;rw [show Dg a []=a from rfl,if_pos ha]
 | cons b t ih =>
   intro a ha h;rw [List.all_cons,Bool.and_eq_true] at h;have hd:=Qk h.1;have hm:Dg a (b :: t)=Dg (a*10+(b.toNat - 48)) t:=rfl;have hmono:=Zzf t (a*10+(b.toNat - 48));unfold Lib.parseUintM;rw [if_pos hd,hm]
   split
   · rw [if_neg (by omega)]
   · split
     · rw [if_neg (by omega)]
     · exact ih _ (by omega) h.2
theorem Pg (c:UInt8) (r:List UInt8):Lib.parseIntB 64 (c :: r)=(match Lib.parseUintB 64 (if c.toNat=43∨c.toNat=45 then r else c :: r) with
 | Lib.NumEnd.syntax=>Lib.NumEnd.syntax
 | .range=>.range
 | .ok u=>if ¬ c.toNat=45∧2 ^ (64 - 1)≤u then .range else if c.toNat=45∧2 ^ (64 - 1) < u then .range else .ok (if c.toNat=45 then -(u:Int) else u)):=rfl
theorem Zzd {r:List UInt8} (hn:r ≠ []) (hd:r.all Ip=true):Lib.parseUintB 64 r=if Dg 0 r≤18446744073709551615 then .ok (Dg 0 r) else .range:=by
 unfold Lib.parseUintB;rw [if_neg hn];exact Yo2 r 0 (by omega) hd
theorem Zqt {l:List UInt8} (h:Jf l=3):Lib.parseIntB 64 l=if Xt (Aj l)=true then .ok (Aj l) else .range:=by
 obtain ⟨m,hm,hd,hn⟩:=C7 h
 cases l with
 | nil=>rw [List.drop_nil] at hn;exact absurd rfl hn
 | cons c r =>
   by_cases hc:c=45
   · subst hc
     have:m=1:=hm.symm;subst this;rw [show (45 :: r).drop 1=r from rfl] at hd hn;have hi:Aj (45 :: r) = -(Dg 0 r:Int):=By r;rw [hi,Pg,if_pos (Or.inr Gz),Zzd hn hd]
     by_cases h1:Dg 0 r≤18446744073709551615
     · rw [if_pos h1]
       simp only [Gz]
       by_cases h2:9223372036854775808 < Dg 0 r
       · have hf:Xt (-(Dg 0 r:Int))=false:=by unfold Xt;exact decide_eq_false (by omega)
         rw [hf,if_neg (by simp),if_pos ⟨trivial,by omega⟩,if_neg (by simp)]
       · have hf:Xt (-(Dg 0 r:Int))=true:=by unfold Xt;exact decide_eq_true (by omega)
         rw [hf,if_neg (by simp),if_neg (by omega),if_pos trivial,if_pos rfl]
     · have hf:Xt (-(Dg 0 r:Int))=false:=by unfold Xt;exact decide_eq_false (by omega)
       rw [if_neg h1,hf,if_neg (by simp)]
   · have hm0:m=0:=by rw [← hm];show (if (c == 45)=true then 1 else 0)=0;rw [if_neg (by simpa using hc)]
     subst hm0;rw [List.drop_zero] at hd;have hcd:Ip c=true:=by rw [List.all_cons,Bool.and_eq_true] at hd;exact hd.1
     have hcb:=Qk hcd;rw [O1 hd,Pg,if_neg (by omega),Zzd (by simp) hd];have hD:Ych (c :: r)=Dg 0 (c :: r):=rfl;rw [hD];have hc45 : ¬ c.toNat=45:=by omega
     by_cases h1:Dg 0 (c :: r)≤18446744073709551615
     · rw [if_pos h1]
       simp only
       by_cases h2:9223372036854775808≤Dg 0 (c :: r)
       · have hf:Xt (Dg 0 (c :: r):Int)=false:=by unfold Xt;exact decide_eq_false (by omega)
         rw [hf,if_pos ⟨hc45,by omega⟩,if_neg (by simp)]
       · have hf:Xt (Dg 0 (c :: r):Int)=true:=by unfold Xt;exact decide_eq_true (by omega)
         rw [hf,if_neg (by omega),if_neg (by omega),if_pos rfl,if_neg hc45]
     · have hf:Xt (Dg 0 (c :: r):Int)=false:=by unfold Xt;exact decide_eq_false (by omega)
       rw [if_neg h1,hf,if_neg (by simp)]
open Go.Shelf Go.RowKit Go.Sort
def Zjk:Go.Shelf.Ren:=⟨fun|129=>197|171=>189|174=>167|205=>188|243=>190|245=>173|246=>191|247=>177|279=>181|280=>182|281=>183|282=>184|283=>192|284=>193|285=>194|286=>195|287=>172|316=>187|317=>196|318=>198|319=>199|320=>200|321=>179|322=>180|337=>201|338=>202|n=>n,fun|0=>0|2=>2|3=>3|4=>4|5=>5|9=>9|20=>20|21=>21|37=>128|46=>129|51=>198|53=>180|75=>139|80=>47|85=>188|127=>162|143=>202|145=>204|167=>193|168=>195|171=>206|173=>209|175=>181|210=>200|212=>212|213=>213|232=>216|233=>217|n=>n,fun|15=>2|16=>3|17=>4|18=>5|19=>6|n=>n⟩
theorem Yc3:Go.Proofs.Lays.n174 Tryz.prog Zjk:={
 mixed:=by kernel_rfl
 f129:=Tryz.func197.trans (congrArg some (by kernel_rfl))
 f171:=Tryz.func189.trans (congrArg some (by kernel_rfl))
 f174:=Tryz.func167.trans (congrArg some (by kernel_rfl))
 f205:=Tryz.func188.trans (congrArg some (by kernel_rfl))
 f243:=Tryz.func190.trans (congrArg some (by kernel_rfl))
 f245:=Tryz.func173.trans (congrArg some (by kernel_rfl))
 f246:=Tryz.func191.trans (congrArg some (by kernel_rfl))
 f247:=Tryz.func177.trans (congrArg some (by kernel_rfl))
 f279:=Tryz.func181.trans (congrArg some (by kernel_rfl))
 f280:=Tryz.func182.trans (congrArg some (by kernel_rfl))
 f281:=Tryz.func183.trans (congrArg some (by kernel_rfl))
 f282:=Tryz.func184.trans (congrArg some (by kernel_rfl))
 f283:=Tryz.func192.trans (congrArg some (by kernel_rfl))
 f284:=Tryz.func193.trans (congrArg some (by kernel_rfl))
 f285:=Tryz.func194.trans (congrArg some (by kernel_rfl))
 f286:=Tryz.func195.trans (congrArg some (by kernel_rfl))
 f287:=Tryz.func172.trans (congrArg some (by kernel_rfl))
 f316:=Tryz.func187.trans (congrArg some (by kernel_rfl))
 f317:=Tryz.func196.trans (congrArg some (by kernel_rfl))
 f318:=Tryz.func198.trans (congrArg some (by kernel_rfl))
 f319:=Tryz.func199.trans (congrArg some (by kernel_rfl))
 f320:=Tryz.func200.trans (congrArg some (by kernel_rfl))
 f321:=Tryz.func179.trans (congrArg some (by kernel_rfl))
 f322:=Tryz.func180.trans (congrArg some (by kernel_rfl))
 f337:=Tryz.func201.trans (congrArg some (by kernel_rfl))
 f338:=Tryz.func202.trans (congrArg some (by kernel_rfl))
 t0:=Tryz.underlying0
 a0:=Tryz.isAgg0
 z0:=Tryz.sizeOf0
 v0:=Tryz.zeroValue0
 t2:=Tryz.underlying2
 a2:=Tryz.isAgg2
 z2:=Tryz.sizeOf2
 v2:=Tryz.zeroValue2
 t3:=Tryz.underlying3
 a3:=Tryz.isAgg3
 z3:=Tryz.sizeOf3
 v3:=Tryz.zeroValue3
 t4:=Tryz.underlying4
 a4:=Tryz.isAgg4
 z4:=Tryz.sizeOf4
 v4:=Tryz.zeroValue4
 t5:=Tryz.underlying5
 a5:=Tryz.isAgg5
 z5:=Tryz.sizeOf5
 v5:=Tryz.zeroValue5
 t9:=Tryz.underlying9
 a9:=Tryz.isAgg9
 z9:=Tryz.sizeOf9
 v9:=Tryz.zeroValue9
 t20:=Tryz.underlying20
 a20:=Tryz.isAgg20
 z20:=Tryz.sizeOf20
 v20:=Tryz.zeroValue20
 t21:=Tryz.underlying21
 a21:=Tryz.isAgg21
 z21:=Tryz.sizeOf21
 v21:=Tryz.zeroValue21
 t37:=Tryz.underlying128
 a37:=Tryz.isAgg128
 z37:=Tryz.sizeOf128
 v37:=Tryz.zeroValue128
 t46:=Tryz.underlying129
 a46:=Tryz.isAgg129
 z46:=Tryz.sizeOf129
 v46:=Tryz.zeroValue129
 t51:=Tryz.underlying198
 a51:=Tryz.isAgg198
 z51:=Tryz.sizeOf198
 v51:=Tryz.zeroValue198
 t53:=Tryz.underlying180
 a53:=Tryz.isAgg180
 z53:=Tryz.sizeOf180
 v53:=Tryz.zeroValue180
 t75:=Tryz.underlying139
 a75:=Tryz.isAgg139
 z75:=Tryz.sizeOf139
 v75:=Tryz.zeroValue139
 t85:=Tryz.underlying188
 a85:=Tryz.isAgg188
 z85:=Tryz.sizeOf188
 v85:=Tryz.zeroValue188
 t127:=Tryz.underlying162
 a127:=Tryz.isAgg162
 z127:=Tryz.sizeOf162
 v127:=Tryz.zeroValue162
 t143:=Tryz.underlying202
 a143:=Tryz.isAgg202
 z143:=Tryz.sizeOf202
 v143:=Tryz.zeroValue202
 t145:=Tryz.underlying204
 a145:=Tryz.isAgg204
 z145:=Tryz.sizeOf204
 v145:=Tryz.zeroValue204
 t167:=Tryz.underlying193
 a167:=Tryz.isAgg193
 z167:=Tryz.sizeOf193
 v167:=Tryz.zeroValue193
 t168:=Tryz.underlying195
 a168:=Tryz.isAgg195
 z168:=Tryz.sizeOf195
 v168:=Tryz.zeroValue195
 t171:=Tryz.underlying206
 a171:=Tryz.isAgg206
 z171:=Tryz.sizeOf206
 v171:=Tryz.zeroValue206
 t173:=Tryz.underlying209
 a173:=Tryz.isAgg209
 z173:=Tryz.sizeOf209
 v173:=Tryz.zeroValue209
 t175:=Tryz.underlying181
 a175:=Tryz.isAgg181
 z175:=Tryz.sizeOf181
 v175:=Tryz.zeroValue181
 t210:=Tryz.underlying200
 a210:=Tryz.isAgg200
 z210:=Tryz.sizeOf200
 v210:=Tryz.zeroValue200
 t212:=Tryz.underlying212
 a212:=Tryz.isAgg212
 z212:=Tryz.sizeOf212
 v212:=Tryz.zeroValue212
 t213:=Tryz.underlying213
 a213:=Tryz.isAgg213
 z213:=Tryz.sizeOf213
 t232:=Tryz.underlying216
 a232:=Tryz.isAgg216
 z232:=Tryz.sizeOf216
 v232:=Tryz.zeroValue216
 t233:=Tryz.underlying217
 a233:=Tryz.isAgg217
 z233:=Tryz.sizeOf217
 v233:=Tryz.zeroValue217
 g15:=by kernel_rfl
 g16:=by kernel_rfl
 g17:=by kernel_rfl
 g18:=by kernel_rfl
 g19:=by kernel_rfl }
theorem Ybz:Go.Proofs.LaysM.n174 Tryz.prog Zjk:={ Yc3 with
 t80:=Tryz.underlying47
 a80:=Tryz.isAgg47
 z80:=Tryz.sizeOf47
 v80:=Tryz.zeroValue47
 i0:=by kernel_rfl
 i2:=by kernel_rfl
 i3:=by kernel_rfl
 i4:=by kernel_rfl
 i5:=by kernel_rfl
 i9:=by kernel_rfl
 i20:=by kernel_rfl
 i21:=by kernel_rfl
 i37:=by kernel_rfl
 i46:=by kernel_rfl
 i51:=by kernel_rfl
 i53:=by kernel_rfl
 i75:=by kernel_rfl
 i80:=by kernel_rfl
 i85:=by kernel_rfl
 i127:=by kernel_rfl
 i143:=by kernel_rfl
 i145:=by kernel_rfl
 i167:=by kernel_rfl
 i168:=by kernel_rfl
 i171:=by kernel_rfl
 i173:=by kernel_rfl
 i175:=by kernel_rfl
 i210:=by kernel_rfl
 i212:=by kernel_rfl
 i232:=by kernel_rfl
 i233:=by kernel_rfl
 m15:=by kernel_rfl
 m16:=by kernel_rfl
 m17:=by kernel_rfl
 m18:=by kernel_rfl
 m19:=by kernel_rfl }
theorem Zv4:Go.Proofs.LaysC.n174 Tryz.prog Zjk:={ Ybz with
 c0:=by kernel_rfl
 c2:=by kernel_rfl
 c3:=by kernel_rfl
 c4:=by kernel_rfl
 c5:=by kernel_rfl
 c9:=by kernel_rfl
 c20:=by kernel_rfl
 c21:=by kernel_rfl
 c37:=by kernel_rfl
 c46:=by kernel_rfl
 c51:=by kernel_rfl
 c53:=by kernel_rfl
 c75:=by kernel_rfl
 c80:=by kernel_rfl
 c85:=by kernel_rfl
 c127:=by kernel_rfl
 c143:=by kernel_rfl
 c145:=by kernel_rfl
 c167:=by kernel_rfl
 c168:=by kernel_rfl
 c171:=by kernel_rfl
 c173:=by kernel_rfl
 c175:=by kernel_rfl
 c210:=by kernel_rfl
 c212:=by kernel_rfl
 c213:=by kernel_rfl
 c232:=by kernel_rfl
 c233:=by kernel_rfl }
def Ve (w : World) : Prop := Wp w ∧ (∃ te pe, w.cell? ⟨3, 0, none⟩ = some (.iface te pe)) ∧ Lib.TabIs Tryz.prog w "internal/strconv.uint64pow10" .u64 Lib.pow10Tab
theorem Yqi : Tryz.prog.globalNamed "internal/strconv.uint64pow10" = some 4 := by kernel_rfl
theorem Ylw {w:World} {b o:Nat} {v:Value} (h:w.cell? ⟨b,o,none⟩=some v):b < w.heap.size:=World.block_lt_of_cell? w _ h
theorem Ve.below {w w':World} (h:Ve w) (hb:Below w.heap.size w w'):Ve w':=by
 obtain ⟨ht,⟨te,pe,hc⟩,hp⟩:=h;exact ⟨ht.below hb ht.lt,⟨te,pe,(hb.cell (p:=⟨3,0,none⟩) (Ylw hc)).trans hc⟩,Go.Joins.var_stays Yqi hp hb (Nat.le_refl _)⟩
def K5 (w wx:World):Prop:=Ve wx∧Below w.heap.size w wx
theorem K5.next {w wx wy:World} (h:K5 w wx) (hb:Below wx.heap.size wx wy):K5 w wy:=⟨h.1.below hb,h.2.trans (hb.mono h.2.size)⟩
theorem K5.alloc {w wx:World} (h:K5 w wx) (o:Obj):K5 w (wx.alloc o):=h.next ((Below.refl _ _).alloc (Nat.le_refl _) o)
theorem Oq (s:ByteArray) (hs:s.size≤1100000) (hk:Jf s.data.toList=3) (hf:Xt (Aj s.data.toList)=true) (w:World) :
   Calls Tryz.prog 167 #[.string s,.int .i64 10,.int .i64 64] w fun e w'=>e=.returned (.tuple #[.int .i64 (Aj s.data.toList),.nilIface])∧Below w.heap.size w w':=by
 have hp:=Zqt hk;rw [if_pos hf] at hp;refine (Any.strconv_ParseInt_10_at64_ok Zv4 s (by omega) _ hp w).mono ?_;rintro e w' ⟨he,h|⟨t,h⟩⟩
 · subst h;exact ⟨he,Below.refl _ _⟩
 · subst h;exact ⟨he,Lib.bytesWorld_below _ _ _⟩
theorem Mk (s:ByteArray) (hs:s.size≤1100000) (hk:Jf s.data.toList=3) (hf:Xt (Aj s.data.toList)=false) (w:World) (hw:Ve w) :
  Calls Tryz.prog 167 #[.string s,.int .i64 10,.int .i64 64] w fun e w'=>(∃ z N,e=.returned (.tuple #[.int .i64 z,.iface 195 (.pointer (some ⟨N,0,none⟩))]))∧Below w.heap.size w w':=by
 have hp:=Zqt hk;rw [if_neg (by rw [hf];simp)] at hp;obtain ⟨_,⟨te,pe,hc⟩,_⟩:=hw;refine (Any.strconv_ParseInt_10_at64_range Zv4 s (by omega) hp (.iface te pe) w hc (Or.inr ⟨te,pe,rfl⟩)).mono ?_;rintro e w' ⟨N,he,_,_,hb⟩;exact ⟨⟨_,N,he⟩,hb⟩
theorem Zjp (s:ByteArray) (w:World) (hs:s.size≤1100000) (hw:Ve w):Calls Tryz.prog 175 #[.string s] w fun e w'=>e=.returned (.bool (Yeg s.data.toList))∧Below w.heap.size w w':=by
 have hN:=Th s w hs
 by_cases h4:Jf s.data.toList=4
 · have hr:Hid (Yeg s.data.toList=true):=Hd (by unfold Yeg;rw [h4];rfl)
   rw [h4] at hN;have HN:=Hd hN;clear hN h4
   go_enter Tryz.func175,Tryz.ntmps175
   go_wp2_with fail
   refine HN.out.mono ?_;rintro e w1 ⟨rfl,hb⟩;have HB:=Hd hb;clear hb;go_wp2_with fail
   go_ret
   exact ⟨Z6 hr.out.symm,HB.out⟩
 · by_cases h3:Jf s.data.toList=3
   · cases hf:Xt (Aj s.data.toList) with
     | true =>
       have hr:Hid (Yeg s.data.toList=false):=Hd (by unfold Yeg;rw [h3,hf];rfl);have HP:=fun wx=>Hd (Oq s hs h3 hf wx);rw [h3] at hN;have HN:=Hd hN;clear hN h3 h4 hf
       go_enter Tryz.func175,Tryz.ntmps175
       go_wp2_with fail
       refine HN.out.mono ?_;rintro e w1 ⟨rfl,hb⟩;have HB:=Hd hb;clear hb;go_wp2_with fail
       refine (HP _).out.mono ?_;rintro e w2 ⟨rfl,hb⟩;have HB2:=Hd (HB.out.trans (hb.mono HB.out.size));clear hb;go_wp2_with fail
       go_ret
       exact ⟨Z6 hr.out.symm,HB2.out⟩
     | false =>
       have hr:Hid (Yeg s.data.toList=true):=Hd (by unfold Yeg;rw [h3,hf];rfl);have HP:=fun wx (hx:Ve wx)=>Hd (Mk s hs h3 hf wx hx);rw [h3] at hN;have HN:=Hd hN;have HW:=Hd hw;clear hN h3 h4 hf hw
       go_enter Tryz.func175,Tryz.ntmps175
       go_wp2_with fail
       refine HN.out.mono ?_;rintro e w1 ⟨rfl,hb⟩;have HB:=Hd hb;clear hb;go_wp2_with fail
       refine (HP _ (HW.out.below HB.out)).out.mono ?_;rintro e w2 ⟨⟨z,N,rfl⟩,hb⟩;have HB2:=Hd (HB.out.trans (hb.mono HB.out.size));clear hb;go_wp2_with fail
       go_ret
       exact ⟨Z6 hr.out.symm,HB2.out⟩
   · have hr:Hid (Yeg s.data.toList=false):=Hd (by unfold Yeg;simp [h3,h4])
     obtain ⟨k,hk⟩:∃ k,Jf s.data.toList=k:=⟨_,rfl⟩;rw [hk] at hN h3 h4;have g4:(k == 4)=false:=by simpa using h4
     have g3:(k == 3)=false:=by simpa using h3
     have HN:=Hd hN;clear hN h3 h4 hk
     go_enter Tryz.func175,Tryz.ntmps175
     go_wp2_with fail
     refine HN.out.mono ?_;rintro e w1 ⟨rfl,hb⟩;have HB:=Hd hb;clear hb;go_wp2_with fail
     go_ret
     exact ⟨Z6 hr.out.symm,HB.out⟩
theorem Ye3 {s:ByteArray} {b0 b1 b2 b3:Bool} (h0:Jv s.data.toList=b0) (h1:(s.toList == [110,117,108,108])=b1) (h2:(s.toList == [116,114,117,101])=b2) (h3:(s.toList == [102,97,108,115,101])=b3) :
  Zju s.data.toList=(b0 && !b1 && !b2 && !b3):=by
 rw [Lib.toList_data] at h1 h2 h3;unfold Zju;rw [h0,← h1,← h2,← h3]
 rfl
theorem Yf6 (s:ByteArray) (w:World) (hs:s.size≤1100000):Calls Tryz.prog 176 #[.string s] w fun e w'=>e=.returned (.bool (Zju s.data.toList))∧Below w.heap.size w w':=by
 have hN:=fun wx=>Dp s wx hs;obtain ⟨b0,h0⟩:∃ b,Jv s.data.toList=b:=⟨_,rfl⟩;obtain ⟨b1,h1⟩:∃ b,(s.toList == [110,117,108,108])=b:=⟨_,rfl⟩;obtain ⟨b2,h2⟩:∃ b,(s.toList == [116,114,117,101])=b:=⟨_,rfl⟩;obtain ⟨b3,h3⟩:∃ b,(s.toList == [102,97,108,115,101])=b:=⟨_,rfl⟩;have hr:=Hd (Ye3 h0 h1 h2 h3);rw [h0] at hN;have HN:=fun wx=>Hd (hN wx);clear hN h0
 cases b0<;>cases b1<;>cases b2<;>cases b3
 all_goals
  go_enter Tryz.func176,Tryz.ntmps176
  go_wp2_with (go_at_call 103;refine (HN _).out.mono ?_;rintro e w1 ⟨rfl,rfl⟩)
  go_ret
  exact ⟨Z6 (by rw [hr.out];rfl),Below.refl _ _⟩
def Ch (k n:Int) (s:ByteArray):Value:=.agg #[.int .i64 k,.int .i64 n,.string s,.slice none 0 0,.slice none 0 0]
def Oa (s:ByteArray):Int × Int × ByteArray:=
 if s.data.toList=Rg then (0,0,⟨#[]⟩) else if s.data.toList=St then (1,1,⟨#[]⟩) else if s.data.toList=Md then (1,0,⟨#[]⟩) else (5,0,s)
def Zv (t:Tok):Option (Int × Int × ByteArray):=
 if t.1=2 then some (Oa t.2)
 else if t.1=3 then (if Xt (Aj t.2.data.toList)=true then some (2,Aj t.2.data.toList,⟨#[]⟩) else some (3,0,t.2))
 else if t.1=4 then some (3,0,t.2) else if t.1=5 then some (4,0,t.2) else none
theorem Zjf {s:ByteArray} {l:List UInt8} {b:Bool} (h:(s.toList == l)=b):(s.data.toList=l) ↔ b=true:=by
 rw [Lib.toList_data] at h;rw [← h];simp
theorem Ybk (s:ByteArray) (w:World):Calls Tryz.prog 166 #[.string s] w fun e w'=>e=.returned (Ch (Oa s).1 (Oa s).2.1 (Oa s).2.2)∧Below w.heap.size w w':=by
 obtain ⟨b1,h1⟩:∃ b,(s.toList == [110,117,108,108])=b:=⟨_,rfl⟩;obtain ⟨b2,h2⟩:∃ b,(s.toList == [116,114,117,101])=b:=⟨_,rfl⟩;obtain ⟨b3,h3⟩:∃ b,(s.toList == [102,97,108,115,101])=b:=⟨_,rfl⟩
 have hw:Oa s=if b1=true then (0,0,⟨#[]⟩) else if b2=true then (1,1,⟨#[]⟩) else if b3=true then (1,0,⟨#[]⟩) else (5,0,s):=by
   unfold Oa;simp only [show (s.data.toList=Rg)=(b1=true) from propext (Zjf h1),show (s.data.toList=St)=(b2=true) from propext (Zjf h2),show (s.data.toList=Md)=(b3=true) from propext (Zjf h3)]
 rw [hw];clear hw
 cases b1 with
 | true =>
   go_enter Tryz.func166,Tryz.ntmps166
   go_wp2_with fail
   exact V7 rfl rfl rfl (heap_alloc_last _ _) ⟨rfl,(Below.refl _ _).alloc (Nat.le_refl _) _⟩
 | false =>
 cases b2 with
 | true =>
   go_enter Tryz.func166,Tryz.ntmps166
   go_wp2_with fail
   exact V7 rfl rfl rfl (heap_alloc_last _ _) ⟨rfl,(Below.refl _ _).alloc (Nat.le_refl _) _⟩
 | false =>
 cases b3 with
 | true =>
   go_enter Tryz.func166,Tryz.ntmps166
   go_wp2_with fail
   exact V7 rfl rfl rfl (heap_alloc_last _ _) ⟨rfl,(Below.refl _ _).alloc (Nat.le_refl _) _⟩
 | false =>
   go_enter Tryz.func166,Tryz.ntmps166
   go_wp2_with fail
   exact V7 rfl rfl rfl (heap_alloc_last _ _) ⟨rfl,(Below.refl _ _).alloc (Nat.le_refl _) _⟩
theorem Zzq (w:World) (a b:Value) (o:Obj):((w.alloc (.cells #[a,b] 45)).alloc o).heap[w.heap.size]? = some (.cells #[a,b] 45 (0,0))∧((w.alloc (.cells #[a,b] 45)).alloc o).heap[w.heap.size+1]? = some o∧Below w.heap.size w ((w.alloc (.cells #[a,b] 45)).alloc o):=by
 refine ⟨(Below.heap_alloc _ _ _ (by simp)).trans (heap_alloc_new _ _),?_,((Below.refl _ _).alloc (Nat.le_refl _) _).alloc (by simp) _⟩;have h2:=heap_alloc_new (w.alloc (.cells #[a,b] 45)) o;have e:(w.alloc (.cells #[a,b] 45)).heap.size=w.heap.size+1:=by simp
 rwa [e] at h2
theorem Dv {w w2:World} {b:Nat} (h:Below w.heap.size w w2) (hb:w.heap.size≤b) (x0 x1 x2 x3 x4:Value):Below w.heap.size w (((((w2.setCell ⟨b,0,none⟩ x0).setCell ⟨b,1,none⟩ x1).setCell ⟨b,2,none⟩ x2).setCell ⟨b,3,none⟩ x3).setCell ⟨b,4,none⟩ x4):=
 ((((h.setCell hb _).setCell hb _).setCell hb _).setCell hb _).setCell hb _
theorem Q2 (t:Tok) (w:World) (hs:t.2.size≤9000) (hk:t.1=3→Jf t.2.data.toList=3) (hw:Ve w):Calls Tryz.prog 150 #[.agg #[.int .i64 t.1,.string t.2]] w fun e w'=>match Zv t with
   | some (k,n,s)=>e=.returned (Ch k n s)∧Below w.heap.size w w'
   | none=>e=Yb 2∧Below w.heap.size w w':=by
 obtain ⟨tk,s⟩:=t;simp only at hs hk ⊢;obtain ⟨y0,y1,yb⟩:=Zzq w (.int .i64 tk) (.string s) (.cells #[.int .i64 0,.int .i64 0,.string ⟨#[]⟩,.slice none 0 0,.slice none 0 0] 94);have Y:=Hd (And.intro y0 (And.intro y1 yb));have hsz:Hid (((w.alloc (.cells #[.int .i64 tk,.string s] 45)).alloc (.cells #[.int .i64 0,.int .i64 0,.string ⟨#[]⟩,.slice none 0 0,.slice none 0 0] 94)).heap.size=w.heap.size+2):=Hd (by simp);clear y0 y1 yb
 by_cases h2:tk=2
 · subst h2
   have hr:Zv (2,s)=some (Oa s):=by unfold Zv;rw [if_pos rfl]
   rw [hr];have HW:=fun wx=>Hd (Ybk s wx);obtain ⟨⟨k,n,x⟩,hx⟩:∃ p,Oa s=p:=⟨_,rfl⟩;rw [hx] at HW ⊢
   show Calls _ _ _ _ fun e w'=>e=.returned (Ch k n x)∧Below w.heap.size w w';unfold Ch at HW ⊢;clear hr hx hk
   go_enter Tryz.func150,Tryz.ntmps150
   go_wp2_with fail
   refine (HW _).out.mono ?_;rintro e w2 ⟨rfl,hb⟩;have z1:=(hb.block (w.heap.size+1) (by have:=hsz.out;omega)).trans Y.out.2.1;have Z:=Hd (And.intro z1 (Y.out.2.2.trans (hb.mono (by have:=hsz.out;omega))));obtain ⟨g0,g1,g2,g3,g4,gz⟩:=gvc z1;have z0':=gz 0;have z1':=gz 1;have z2':=gz 2;have z3':=gz 3;have z4':=gz 4;clear hb z1 HW gz;go_wp2_with fail
   exact V7 rfl rfl rfl (Fu Z.out.1) ⟨rfl,Dv Z.out.2 (Nat.le_succ _) _ _ _ _ _⟩
 · have e2:(tk == 2)=false:=by simpa using h2
   by_cases h3:tk=3
   · subst h3
     have hk3:=hk rfl
     cases hf:Xt (Aj s.data.toList) with
     | true =>
       have hr:Zv (3,s)=some (2,Aj s.data.toList,⟨#[]⟩):=by unfold Zv;rw [if_neg (by simp),if_pos rfl,if_pos hf]
       rw [hr];have HP:=fun wx=>Hd (Oq s (by omega) hk3 hf wx);generalize Aj s.data.toList=z at *;have HI:=fun wx=>Hd (Yhv z wx)
       show Calls _ _ _ _ fun e w'=>e=.returned (Ch 2 z ⟨#[]⟩)∧Below w.heap.size w w';unfold Ch;clear hr hk hk3 hf h2;obtain ⟨q0,q1,_,_⟩:=Ug Y.out.1
       go_enter Tryz.func150,Tryz.ntmps150
       go_wp2_with fail
       refine (HP _).out.mono ?_;rintro e w2 ⟨rfl,hb⟩;clear q0 q1;have z0:=(hb.block w.heap.size (by have:=hsz.out;omega)).trans Y.out.1;have z1:=(hb.block (w.heap.size+1) (by have:=hsz.out;omega)).trans Y.out.2.1;have Z:=Hd (And.intro z1 (Y.out.2.2.trans (hb.mono (by have:=hsz.out;omega))));have hlt2:w.heap.size+2≤w2.heap.size:=by have:=hb.size;have:=hsz.out;omega
       obtain ⟨q0,q1,_,_⟩:=Ug z0;obtain ⟨g0,g1,g2,g3,g4,gz⟩:=gvc z1;have z0':=gz 0;have z1':=gz 1;have z2':=gz 2;have z3':=gz 3;have z4':=gz 4;clear hb z0 z1 gz;go_wp2_with fail
       refine (HI _).out.mono ?_;rintro e w3 ⟨rfl,hb3⟩;have z1:=(hb3.block (w.heap.size+1) (by omega)).trans Z.out.1;have Z3:=Hd (And.intro z1 (Z.out.2.trans (hb3.mono (by omega))));clear q0 q1 g0 g1 g2 g3 g4 z0' z1' z2' z3' z4';obtain ⟨g0,g1,g2,g3,g4,gz⟩:=gvc z1;have z0':=gz 0;have z1':=gz 1;have z2':=gz 2;have z3':=gz 3;have z4':=gz 4;clear hb3 z1 gz;go_wp2_with fail
       exact V7 rfl rfl rfl (Fu Z3.out.1) ⟨rfl,Dv Z3.out.2 (Nat.le_succ _) _ _ _ _ _⟩
     | false =>
       have hr:Zv (3,s)=some (3,0,s):=by unfold Zv;rw [if_neg (by simp),if_pos rfl,if_neg (by rw [hf];simp)]
       rw [hr];have HP:=fun wx (hx:Ve wx)=>Hd (Mk s (by omega) hk3 hf wx hx);have HW:=Hd (hw.below Y.out.2.2)
       show Calls _ _ _ _ fun e w'=>e=.returned (Ch 3 0 s)∧Below w.heap.size w w';unfold Ch;clear hr hk hk3 hf h2;obtain ⟨q0,q1,_,_⟩:=Ug Y.out.1
       go_enter Tryz.func150,Tryz.ntmps150
       go_wp2_with fail
       refine (HP _ HW.out).out.mono ?_;rintro e w2 ⟨⟨z,N,rfl⟩,hb⟩;clear q0 q1;have z0:=(hb.block w.heap.size (by have:=hsz.out;omega)).trans Y.out.1;have z1:=(hb.block (w.heap.size+1) (by have:=hsz.out;omega)).trans Y.out.2.1;have Z:=Hd (And.intro z1 (Y.out.2.2.trans (hb.mono (by have:=hsz.out;omega))));have hlt2:w.heap.size+2≤w2.heap.size:=by have:=hb.size;have:=hsz.out;omega
       obtain ⟨q0,q1,_,_⟩:=Ug z0;obtain ⟨g0,g1,g2,g3,g4,gz⟩:=gvc z1;have z0':=gz 0;have z1':=gz 1;have z2':=gz 2;have z3':=gz 3;have z4':=gz 4;clear hb z0 z1 gz;go_wp2_with fail
       exact V7 rfl rfl rfl (Fu Z.out.1) ⟨rfl,Dv Z.out.2 (Nat.le_succ _) _ _ _ _ _⟩
   · have e3:(tk == 3)=false:=by simpa using h3
     by_cases h4:tk=4
     · subst h4
       have hr:Zv (4,s)=some (3,0,s):=by unfold Zv;rw [if_neg (by simp),if_neg (by simp),if_pos rfl]
       rw [hr]
       show Calls _ _ _ _ fun e w'=>e=.returned (Ch 3 0 s)∧Below w.heap.size w w';unfold Ch;clear hr hk h2 h3
       go_enter Tryz.func150,Tryz.ntmps150
       go_wp2_with fail
       exact V7 rfl rfl rfl (Zzq w _ _ _).2.1 ⟨rfl,(Zzq w _ _ _).2.2⟩
     · have e4:(tk == 4)=false:=by simpa using h4
       by_cases h5:tk=5
       · subst h5
         have hr:Zv (5,s)=some (4,0,s):=by unfold Zv;rw [if_neg (by simp),if_neg (by simp),if_neg (by simp),if_pos rfl]
         rw [hr];have HI:=fun wx=>Hd (Ybi s wx)
         show Calls _ _ _ _ fun e w'=>e=.returned (Ch 4 0 s)∧Below w.heap.size w w';unfold Ch;clear hr hk h2 h3 h4
         go_enter Tryz.func150,Tryz.ntmps150
         go_wp2_with fail
         refine (HI _).out.mono ?_;rintro e w2 ⟨rfl,hb⟩;have z0:=(hb.block w.heap.size (by have:=hsz.out;omega)).trans Y.out.1;have z1:=(hb.block (w.heap.size+1) (by have:=hsz.out;omega)).trans Y.out.2.1;have Z:=Hd (And.intro z1 (Y.out.2.2.trans (hb.mono (by have:=hsz.out;omega))));have hlt2:w.heap.size+2≤w2.heap.size:=by have:=hb.size;have:=hsz.out;omega
         obtain ⟨q0,q1,_,_⟩:=Ug z0;obtain ⟨g0,g1,g2,g3,g4,gz⟩:=gvc z1;have z0':=gz 0;have z1':=gz 1;have z2':=gz 2;have z3':=gz 3;have z4':=gz 4;clear hb z0 z1 gz;go_wp2_with fail
         exact V7 rfl rfl rfl (Fu Z.out.1) ⟨rfl,Dv Z.out.2 (Nat.le_succ _) _ _ _ _ _⟩
       · have e5:(tk == 5)=false:=by simpa using h5
         have hr:Zv (tk,s)=none:=by unfold Zv;rw [if_neg h2,if_neg h3,if_neg h4,if_neg h5]
         rw [hr]
         show Calls _ _ _ _ fun e w'=>e=Yb 2∧Below w.heap.size w w';clear hr hk h2 h3 h4 h5
         go_enter Tryz.func150,Tryz.ntmps150
         go_wp2_with fail
         exact ⟨rfl,rfl,Y.out.2.2⟩
end Go.Proofs.YtkmloefbkgcbkaaGreatDoor
