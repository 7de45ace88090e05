/- Plain facts on tokens, of no program: what stands between them, numbers, words, marks, what quotes say, the tokens of a text. -/
import Derived.Test.YtkmloefbkgcbkaaGreatDoorSr4
import Derived.Shelf.Strings.Prefix
import Derived.Shelf.Small.Wraps
import Derived.Shelf.Small.Strs
import Derived.Shelf.Strings.Runes
import Derived.Shelf.Strings.IndexAnyAll
import Derived.Shelf.Strconv.ToError
namespace Go.Proofs.YtkmloefbkgcbkaaGreatDoor
def Ip (b:UInt8):Bool:=Ro (b.toNat:Int)
def Wf (b:UInt8):Bool:=Qz (b.toNat:Int)
def If (b:UInt8):Bool:=Wf b || Ip b
def Lf (b:UInt8):Bool:=b == 9 || b == 10 || b == 13 || b == 32 || b == 44
def Jt (b:UInt8):Bool:=!(b == 10 || b == 13)
def Jz (b:UInt8):Bool:=[33,36,38,40,41,58,61,64,91,93,123,124,125].contains b
def pre (p l:List UInt8):Bool:=p.isPrefixOf l
def Jy:List UInt8→Nat
 | []=>0
 | b :: t=>if Lf b then 1 else if b == 35 then 1+(t.takeWhile Jt).length else if pre [239,187,191] (b :: t) then 3 else 0
def Xe (l:List UInt8):Nat:=(l.takeWhile Ip).length
def Vp:List UInt8→Nat
 | []=>0
 | b :: t=>if b == 46 then (if Xe t=0 then 0 else 1+Xe t) else 0
def Xp:List UInt8→Nat
 | []=>0
 | b :: _=>if b == 43 || b == 45 then 1 else 0
def Jl:List UInt8→Nat
 | []=>0
 | b :: t=>if b == 101 || b == 69 then (if Xe (t.drop (Xp t))=0 then 0 else 1+Xp t+Xe (t.drop (Xp t))) else 0
def Zu:List UInt8→Nat
 | []=>0
 | b :: _=>if b == 45 then 1 else 0
def Yc:List UInt8→Nat
 | []=>0
 | b :: t=>if b == 48 then 1 else Xe (b :: t)
def nmL (l:List UInt8):Nat × Int:=
 if Yc (l.drop (Zu l))=0 then (0,0) else
  (Zu l+Yc (l.drop (Zu l))+Vp (l.drop (Zu l+Yc (l.drop (Zu l))))+Jl (l.drop (Zu l+Yc (l.drop (Zu l))+Vp (l.drop (Zu l+Yc (l.drop (Zu l)))))),
   if Vp (l.drop (Zu l+Yc (l.drop (Zu l))))=0∧Jl (l.drop (Zu l+Yc (l.drop (Zu l))+Vp (l.drop (Zu l+Yc (l.drop (Zu l))))))=0 then 3 else 4)
def Jx:List UInt8→Bool
 | []=>false
 | b :: _=>Ip b || Wf b || b == 46
def nbL (l:List UInt8):Nat × Int:=
 if (nmL l).1=0 then (0,0) else if Jx (l.drop (nmL l).1) then (0,0) else nmL l
def Jf (l:List UInt8):Int:=if (nbL l).1 < l.length then 0 else (nbL l).2
def Je:List UInt8→Nat
 | []=>0
 | b :: t=>if Wf b then 1+(t.takeWhile If).length else 0
def J6:List UInt8→Nat
 | []=>0
 | b :: t=>if pre [46,46,46] (b :: t) then 3 else if Jz b then 1 else 0
def Ss (b:UInt8):Int:=
 if 48≤(b.toNat:Int)∧(b.toNat:Int)≤57 then (b.toNat:Int) - 48 else if 97≤(b.toNat:Int)∧(b.toNat:Int)≤102 then (b.toNat:Int) - 87 else if 65≤(b.toNat:Int)∧(b.toNat:Int)≤70 then (b.toNat:Int) - 55 else 16
def Gv (b:UInt8):Bool:=decide (Ss b < 16)
def Ymd (a b c d:UInt8):Int:=((Ss a*16+Ss b)*16+Ss c)*16+Ss d
def Zo:List UInt8→Option Int
 | x :: y :: a :: b :: c :: d :: _=>if x == 92 && y == 117 && Gv a && Gv b && Gv c && Gv d then some (Ymd a b c d) else none
 | _=>none
def Lk:Nat→List UInt8→List Int
 | 0,_=>[]
 | n+1,l=>match Zo l with|some u=>u :: Lk n (l.drop 6)|none=>[]
def Yv (l:List UInt8):List Int:=Lk l.length l
def Mx (c:UInt8):Option UInt8:=
 if c == 34 then some 34 else if c == 92 then some 92 else if c == 47 then some 47 else if c == 98 then some 8 else if c == 102 then some 12 else if c == 110 then some 10 else if c == 114 then some 13 else if c == 116 then some 9 else none
def Ow (l:List UInt8):Option (List UInt8 × Nat):=
 if Yv l=[] then (match l with|_ :: c :: _=>(Mx c).map fun x=>([x],2)|_=>none)
 else (Vo (Yv l)).map fun x=>(x,6*(Yv l).length)
def Ij:Nat→List UInt8→Option (List UInt8 × Nat)
 | 0,_=>none
 | _+1,[]=>none
 | n+1,b :: t =>
   if b == 34 then some ([],1) else if b == 10 || b == 13 then none else if b == 92 then
    (match Ow (b :: t) with
    | none=>none
    | some p=>(Ij n ((b :: t).drop p.2)).map fun q=>(p.1++q.1,p.2+q.2))
   else (Ij n t).map fun q=>(b :: q.1,1+q.2)
def J7 (l:List UInt8):Option (List UInt8 × Nat):=Ij (l.length+1) l
def Sj:Nat→List UInt8→Option (List UInt8 × Nat)
 | 0,_=>none
 | _+1,[]=>none
 | n+1,b :: t =>
   if pre [34,34,34] (b :: t) then some ([],3) else if pre [92,34,34,34] (b :: t) then (Sj n ((b :: t).drop 4)).map fun q=>([34,34,34]++q.1,4+q.2)
   else (Sj n t).map fun q=>(b :: q.1,1+q.2)
def Pb (l:List UInt8):Option (List UInt8 × Nat):=Sj (l.length+1) l
def Xx:List UInt8→Option (List UInt8 × Nat)
 | []=>none
 | b :: t=>if pre [34,34,34] (b :: t) then (Pb ((b :: t).drop 3)).map fun q=>(Blk.valueL q.1,3+q.2) else if b == 34 then (J7 t).map fun q=>(q.1,1+q.2) else none
def Lb (l:List UInt8):Option ((Int × List UInt8) × Nat):=
 if J6 l ≠ 0 then some ((1,l.take (J6 l)),J6 l)
 else if Je l ≠ 0 then some ((2,l.take (Je l)),Je l)
 else if (nbL l).1 ≠ 0 then some (((nbL l).2,l.take (nbL l).1),(nbL l).1)
 else (Xx l).map fun q=>((5,q.1),q.2)
def Iy:Nat→List UInt8→Option (List (Int × List UInt8))
 | 0,_=>none
 | n+1,l =>
   if Jy l ≠ 0 then Iy n (l.drop (Jy l)) else if l=[] then some [] else
    match Lb l with
    | none=>none
    | some p=>(Iy n (l.drop p.2)).map (p.1 :: ·)
def Ua (l:List UInt8):Option (List (Int × List UInt8)):=Iy (l.length+1) l
theorem V5 (p:UInt8→Bool) (l:List UInt8):(l.takeWhile p).length≤l.length:=(List.takeWhile_sublist p).length_le
theorem V9 {p l:List UInt8} (h:pre p l=true):p.length≤l.length:=by
 unfold pre at h;rw [List.isPrefixOf_iff_prefix] at h;exact h.length_le
theorem Mc (l:List UInt8):Jy l≤l.length:=by
 cases l with
 | nil=>simp [Jy]
 | cons b t =>
   have:=V5 Jt t;simp only [Jy]
   split
   · simp
   · split
     · simp only [List.length_cons];omega
     · split
       · rename_i h;have:=V9 h;simpa using this
       · simp
theorem Vc (l:List UInt8):Xe l≤l.length:=V5 _ _
theorem Zku (l:List UInt8):Vp l≤l.length:=by
 cases l with
 | nil=>simp [Vp]
 | cons b t =>
   have:=Vc t;simp only [Vp,List.length_cons]
   split
   · split<;>omega
   · omega
theorem Yis (l:List UInt8):Xp l≤l.length:=by
 cases l with
 | nil=>simp [Xp]
 | cons b t=>simp only [Xp,List.length_cons];split<;>omega
theorem Zv7 (l:List UInt8):Jl l≤l.length:=by
 cases l with
 | nil=>simp [Jl]
 | cons b t =>
   have:=Yis t;have:=Vc (t.drop (Xp t));simp only [Jl,List.length_cons,List.length_drop] at *
   split
   · split<;>omega
   · omega
theorem Zz3 (l:List UInt8):Zu l≤l.length:=by
 cases l with
 | nil=>simp [Zu]
 | cons b t=>simp only [Zu,List.length_cons];split<;>omega
theorem Bg (l:List UInt8):Yc l≤l.length:=by
 cases l with
 | nil=>simp [Yc]
 | cons b t =>
   have:=Vc (b :: t);simp only [Yc]
   split
   · simp
   · exact this
theorem Fx (l:List UInt8):(nmL l).1≤l.length:=by
 unfold nmL
 split
 · simp
 · have h1:=Zz3 l
   have h2:=Bg (l.drop (Zu l));have h3:=Zku (l.drop (Zu l+Yc (l.drop (Zu l))));have h4:=Zv7 (l.drop (Zu l+Yc (l.drop (Zu l))+Vp (l.drop (Zu l+Yc (l.drop (Zu l))))));simp only [List.length_drop] at *;omega
theorem Ws (l:List UInt8):(nbL l).1≤l.length:=by
 have:=Fx l;unfold nbL
 split
 · simp
 · split
   · simp
   · exact this
theorem Zxe (l:List UInt8):Je l≤l.length:=by
 cases l with
 | nil=>simp [Je]
 | cons b t =>
   have:=V5 If t;simp only [Je,List.length_cons]
   split<;>omega
theorem Zkm (l:List UInt8):J6 l≤l.length:=by
 cases l with
 | nil=>simp [J6]
 | cons b t =>
   simp only [J6]
   split
   · rename_i h;have:=V9 h;simpa using this
   · simp only [List.length_cons];split<;>omega
theorem V4 {l:List UInt8} {u:Int} (h:Zo l=some u):6≤l.length:=by
 unfold Zo at h
 split at h
 · simp
 · cases h
theorem Ynm (b:UInt8):0≤Ss b∧Ss b≤16:=by
 unfold Ss
 split
 · omega
 · split
   · omega
   · split<;>omega
theorem Lm {b:UInt8} (h:Gv b=true):0≤Ss b∧Ss b≤15:=by
 have:=Ynm b;unfold Gv at h;simp at h
 omega
theorem Sq {l:List UInt8} {u:Int} (h:Zo l=some u):0≤u∧u≤65535:=by
 unfold Zo at h
 split at h
 · rename_i x y a b c d r
   split at h
   · rename_i hc
     simp only [Bool.and_eq_true] at hc;obtain ⟨⟨⟨⟨_,ha⟩,hb⟩,hc⟩,hd⟩:=hc;have:=Lm ha;have:=Lm hb;have:=Lm hc;have:=Lm hd;injection h with h
     unfold Ymd at h;omega
   · cases h
 · cases h
theorem Nf:∀ (n m:Nat) (l:List UInt8),l.length≤n→l.length≤m→Lk n l=Lk m l:=by
 intro n
 induction n with
 | zero =>
   intro m l h _;have:l=[]:=List.eq_nil_of_length_eq_zero (by omega);subst this
   cases m<;>rfl
 | succ n ih =>
   intro m l hn hm
   cases m with
   | zero =>
     have:l=[]:=List.eq_nil_of_length_eq_zero (by omega);subst this
     rfl
   | succ m =>
     simp only [Lk]
     cases hu:Zo l with
     | none=>rfl
     | some u =>
       have:=V4 hu;simp only;rw [ih m _ (by simp only [List.length_drop];omega) (by simp only [List.length_drop];omega)]
theorem Vx {l:List UInt8} (h:Zo l=none):Yv l=[]:=by
 unfold Yv
 cases l with
 | nil=>rfl
 | cons b t=>simp only [List.length_cons,Lk,h]
theorem Fq {l:List UInt8} {u:Int} (h:Zo l=some u):Yv l=u :: Yv (l.drop 6):=by
 have hl:=V4 h;unfold Yv;obtain ⟨n,hn⟩:∃ n,l.length=n+1:=⟨l.length - 1,by omega⟩;rw [hn];simp only [Lk,h];rw [Nf n (l.drop 6).length _ (by simp only [List.length_drop];omega) (Nat.le_refl _)]
theorem Zvh:∀ (n:Nat) (l:List UInt8),l.length≤n→6*(Yv l).length≤l.length:=by
 intro n
 induction n with
 | zero =>
   intro l h;have:l=[]:=List.eq_nil_of_length_eq_zero (by omega);subst this;simp [Yv,Lk]
 | succ n ih =>
   intro l h
   cases hu:Zo l with
   | none=>rw [Vx hu];simp
   | some u =>
     have:=V4 hu;have:=ih (l.drop 6) (by simp only [List.length_drop];omega);rw [Fq hu];simp only [List.length_drop,List.length_cons] at *;omega
theorem S6 {l:List UInt8} {p:List UInt8 × Nat} (h:Ow l=some p):2≤p.2∧p.2≤l.length:=by
 unfold Ow at h;have:=Zvh l.length l (Nat.le_refl _)
 split at h
 · split at h
   · obtain ⟨x,_,rfl⟩:=Option.map_eq_some_iff.1 h
     simp
   · cases h
 · rename_i hn
   obtain ⟨x,_,rfl⟩:=Option.map_eq_some_iff.1 h;have:(Yv l).length ≠ 0:=fun e=>hn (List.eq_nil_of_length_eq_zero e);simp only;omega
theorem Yhz:∀ (n:Nat) (l:List UInt8) (p:List UInt8 × Nat),Ij n l=some p→1≤p.2∧p.2≤l.length:=by
 intro n
 induction n with
 | zero=>intro l p h;cases h
 | succ n ih =>
   intro l p h
   cases l with
   | nil=>cases h
   | cons b t =>
     simp only [Ij] at h
     split at h
     · injection h with h;subst h;simp
     · split at h
       · cases h
       · split at h
         · split at h
           · cases h
           · rename_i e he
             obtain ⟨q,hq,rfl⟩:=Option.map_eq_some_iff.1 h;have:=ih _ _ hq;have:=S6 he;simp only [List.length_drop] at *;omega
         · obtain ⟨q,hq,rfl⟩:=Option.map_eq_some_iff.1 h
           have:=ih _ _ hq;simp only [List.length_cons] at *;omega
theorem Sy:∀ (n m:Nat) (l:List UInt8),l.length < n→l.length < m→Ij n l=Ij m l:=by
 intro n
 induction n with
 | zero=>intro m l h;omega
 | succ n ih =>
   intro m l hn hm
   cases m with
   | zero=>omega
   | succ m =>
     cases l with
     | nil=>rfl
     | cons b t =>
       simp only [List.length_cons] at hn hm;simp only [Ij];rw [ih m t (by omega) (by omega)]
       cases he:Ow (b :: t) with
       | none=>rfl
       | some e =>
         have:=S6 he;simp only;rw [ih m _ (by simp only [List.length_drop,List.length_cons];omega) (by simp only [List.length_drop,List.length_cons];omega)]
theorem Xf (b:UInt8) (t:List UInt8):J7 (b :: t) =
   if b == 34 then some ([],1) else if b == 10 || b == 13 then none else if b == 92 then
    (match Ow (b :: t) with
    | none=>none
    | some p=>(J7 ((b :: t).drop p.2)).map fun q=>(p.1++q.1,p.2+q.2))
   else (J7 t).map fun q=>(b :: q.1,1+q.2):=by
 show Ij (t.length+1+1) (b :: t)=_;simp only [Ij]
 cases he:Ow (b :: t) with
 | none=>rfl
 | some e =>
   have:=S6 he;simp only;rw [Sy (t.length+1) (((b :: t).drop e.2).length+1) ((b :: t).drop e.2) (by simp only [List.length_drop,List.length_cons];omega) (by omega)]
   rfl
theorem Ycx:∀ (n:Nat) (l:List UInt8) (p:List UInt8 × Nat),Sj n l=some p→3≤p.2∧p.2≤l.length∧p.1.length+3≤p.2:=by
 intro n
 induction n with
 | zero=>intro l p h;cases h
 | succ n ih =>
   intro l p h
   cases l with
   | nil=>cases h
   | cons b t =>
     simp only [Sj] at h
     split at h
     · rename_i hp
       have:=V9 hp;injection h with h;subst h;simpa using this
     · split at h
       · rename_i hp
         have:=V9 hp;obtain ⟨q,hq,rfl⟩:=Option.map_eq_some_iff.1 h;have:=ih _ _ hq;simp only [List.length_drop,List.length_cons,List.length_nil,List.length_append] at *;omega
       · obtain ⟨q,hq,rfl⟩:=Option.map_eq_some_iff.1 h
         have:=ih _ _ hq;simp only [List.length_cons] at *;omega
theorem Zka:∀ (n m:Nat) (l:List UInt8),l.length < n→l.length < m→Sj n l=Sj m l:=by
 intro n
 induction n with
 | zero=>intro m l h;omega
 | succ n ih =>
   intro m l hn hm
   cases m with
   | zero=>omega
   | succ m =>
     cases l with
     | nil=>rfl
     | cons b t =>
       simp only [List.length_cons] at hn hm;simp only [Sj];rw [ih m t (by omega) (by omega),ih m ((b :: t).drop 4) (by simp only [List.length_drop,List.length_cons];omega) (by simp only [List.length_drop,List.length_cons];omega)]
theorem W7 (b:UInt8) (t:List UInt8):Pb (b :: t) =
  if pre [34,34,34] (b :: t) then some ([],3) else if pre [92,34,34,34] (b :: t) then (Pb ((b :: t).drop 4)).map fun q=>([34,34,34]++q.1,4+q.2)
  else (Pb t).map fun q=>(b :: q.1,1+q.2):=by
 show Sj (t.length+1+1) (b :: t)=_;simp only [Sj];rw [Zka (t.length+1) (((b :: t).drop 4).length+1) ((b :: t).drop 4) (by simp only [List.length_drop,List.length_cons];omega) (by omega)]
 rfl
theorem Ct {l:List UInt8} {p:List UInt8 × Nat} (h:Xx l=some p):1≤p.2∧p.2≤l.length:=by
 cases l with
 | nil=>cases h
 | cons b t =>
   simp only [Xx] at h
   split at h
   · obtain ⟨q,hq,rfl⟩:=Option.map_eq_some_iff.1 h
     have:=Ycx _ _ _ hq;simp only [List.length_drop,List.length_cons] at *;omega
   · split at h
     · obtain ⟨q,hq,rfl⟩:=Option.map_eq_some_iff.1 h
       have:=Yhz _ _ _ hq;simp only [List.length_cons] at *;omega
     · cases h
theorem Zkc {l:List UInt8} {p:(Int × List UInt8) × Nat} (h:Lb l=some p):1≤p.2∧p.2≤l.length:=by
 have h1:=Zkm l;have h2:=Zxe l;have h3:=Ws l;unfold Lb at h
 split at h
 · injection h with h;subst h;simp only;omega
 · split at h
   · injection h with h;subst h;simp only;omega
   · split at h
     · injection h with h;subst h;simp only;omega
     · obtain ⟨q,hq,rfl⟩:=Option.map_eq_some_iff.1 h
       exact Ct hq
theorem Oy : ∀ (n m:Nat) (l:List UInt8),l.length < n→l.length < m→Iy n l=Iy m l:=by
 intro n
 induction n with
 | zero=>intro m l h;omega
 | succ n ih =>
   intro m l hn hm
   cases m with
   | zero=>omega
   | succ m =>
     simp only [Iy]
     split
     · rename_i hg
       have:=Mc l;rw [ih m _ (by simp only [List.length_drop];omega) (by simp only [List.length_drop];omega)]
     · split
       · rfl
       · cases ht:Lb l with
         | none=>rfl
         | some p =>
           have:=Zkc ht;simp only;rw [ih m _ (by simp only [List.length_drop];omega) (by simp only [List.length_drop];omega)]
theorem Dz:Ua []=some []:=rfl
theorem Zz0 {l:List UInt8} (h:Jy l ≠ 0):Ua l=Ua (l.drop (Jy l)):=by
 have:=Mc l
 show Iy (l.length+1) l=_;simp only [Iy,if_pos h];exact Oy _ _ _ (by simp only [List.length_drop];omega) (by omega)
theorem Bw {l:List UInt8} {p:(Int × List UInt8) × Nat} (h:Jy l=0) (hn:l ≠ []) (ht:Lb l=some p):Ua l=(Ua (l.drop p.2)).map (p.1 :: ·):=by
 have:=Zkc ht
 show Iy (l.length+1) l=_;simp only [Iy,h,ne_eq,not_true,if_false,if_neg hn,ht];rw [Oy l.length ((l.drop p.2).length+1) _ (by simp only [List.length_drop];omega) (by omega)]
 rfl
theorem Ny {l:List UInt8} (h:Jy l=0) (hn:l ≠ []) (ht:Lb l=none):Ua l=none:=by
 show Iy (l.length+1) l=_;simp only [Iy,h,ne_eq,not_true,if_false,if_neg hn,ht]
theorem Y8 {P:UInt8→Prop} (h:∀ a:Fin 256,P (UInt8.ofNat a.val)) (b:UInt8):P b:=by
 have:=h ⟨b.toNat,UInt8.toNat_lt b⟩
 simpa using this
def I9 (us:List Int) (l:List UInt8):Option (List UInt8 × Nat):=
 match Vo (us++Yv l) with
 | none=>none
 | some x=>(J7 (l.drop (6*(Yv l).length))).map fun q=>(x++q.1,6*(Yv l).length+q.2)
theorem Yf4:Vo []=some []:=rfl
theorem C5 {l:List UInt8} {u:Int} (h:Zo l=some u):∃ t,l=92 :: 117 :: t:=by
 unfold Zo at h
 split at h
 · rename_i x y a b c d r
   split at h
   · rename_i hc
     simp only [Bool.and_eq_true,beq_iff_eq] at hc;obtain ⟨⟨⟨⟨⟨rfl,rfl⟩,_⟩,_⟩,_⟩,_⟩:=hc;exact ⟨_,rfl⟩
   · cases h
 · cases h
theorem Yb3 {l:List UInt8} (h:Yv l ≠ []):∃ t,l=92 :: 117 :: t:=by
 cases hu:Zo l with
 | none=>exact absurd (Vx hu) h
 | some u=>exact C5 hu
theorem Ym1 {o:Option (List UInt8 × Nat)} : (o.map fun q=>(([]:List UInt8)++q.1,0+q.2))=o:=by
 cases o<;>simp
theorem Va (l:List UInt8):I9 [] l=J7 l:=by
 unfold I9
 by_cases h:Yv l=[]
 · rw [h,List.append_nil,Yf4]
   simp only [List.length_nil,Nat.mul_zero,List.drop_zero];exact Ym1
 · obtain ⟨t,rfl⟩:=Yb3 h
   rw [Xf,List.nil_append]
   have e:Ow (92 :: 117 :: t)=(Vo (Yv (92 :: 117 :: t))).map fun x=>(x,6*(Yv (92 :: 117 :: t)).length):=by
    unfold Ow;rw [if_neg h]
   rw [e]
   cases Vo (Yv (92 :: 117 :: t)) with
   | none=>rfl
   | some x=>rfl
theorem Yam {us:List Int} {l:List UInt8} {u:Int} (h:Zo l=some u):I9 us l=(I9 (us++[u]) (l.drop 6)).map fun q=>(q.1,6+q.2):=by
 unfold I9;rw [Fq h,List.append_assoc,List.singleton_append]
 cases Vo (us++u :: Yv (l.drop 6)) with
 | none=>rfl
 | some x =>
   simp only [List.length_cons,List.drop_drop,Option.map_map];rw [show 6+6*(Yv (l.drop 6)).length=6*((Yv (l.drop 6)).length+1) by omega]
   congr 1
   funext q
   simp only [Function.comp,Prod.mk.injEq,true_and];omega
theorem Wx {us:List Int} {l:List UInt8} (h:Zo l=none):I9 us l=match Vo us with|none=>none|some x=>(J7 l).map fun q=>(x++q.1,q.2):=by
 unfold I9;rw [Vx h,List.append_nil]
 cases Vo us with
 | none=>rfl
 | some x =>
   simp only [List.length_nil,Nat.mul_zero,List.drop_zero]
   congr 1
   funext q
   simp
theorem Yie (l:List UInt8):Jf l=if (nmL l).1 ≠ l.length then 0 else (nmL l).2:=by
 have hle:=Fx l;unfold Jf nbL
 by_cases h0:(nmL l).1=0
 · have h2:(nmL l).2=0:=by
     unfold nmL at h0 ⊢
     split
     · rfl
     · rename_i hw
       rw [if_neg hw] at h0;simp only at h0;omega
   rw [if_pos h0];simp only [h0,h2]
   split<;>split<;>rfl
 · rw [if_neg h0]
   cases hb:Jx (l.drop (nmL l).1)
   · simp only [Bool.false_eq_true,if_false]
     by_cases hl:(nmL l).1 < l.length
     · rw [if_pos hl,if_pos (by omega)]
     · rw [if_neg hl,if_neg (by omega)]
   · have hne:l.drop (nmL l).1 ≠ []:=by intro e;rw [e] at hb;cases hb
     have:(nmL l).1 ≠ l.length:=fun e=>hne (by rw [e];simp);simp only [if_true];rw [if_pos this]
     split<;>rfl
def Zj9 (b:UInt8):Bool:=Yd5 (b.toNat:Int) && decide (b.toNat < 128)
theorem Ce {b:UInt8} (t:List UInt8) (h:b.toNat < 128):dec (b :: t)=((b.toNat:Int),1):=by
 have h0:byt (b :: t) 0=(b.toNat:Int):=rfl;refine Cw (k:=0) (by omega) (by simp) ?_ rfl ?_ ?_
 · rw [h0];unfold Xv;simp [Vw,Ai];omega
 · show byt (b :: t) 0 - Vw 0=_;rw [h0];simp [Vw]
 · unfold Qb Lj X6;simp;omega
theorem Zzl {b:UInt8} (t:List UInt8) (h:b.toNat < 128):X7 (b :: t)=(Yd5 (b.toNat:Int) && X7 t):=by
 unfold X7;rw [Wl (by simp) (by rw [Ce t h];simp),Ce t h]
 rfl
theorem Zi {b:UInt8} (t:List UInt8) (h:b.toNat < 128):Zm (b :: t)=Zm t:=by
 unfold Zm;rw [Wl (by simp) (by rw [Ce t h];simp),Ce t h];simp
theorem Zq0:∀ {l:List UInt8},l.all Zj9=true→X7 l=true:=by
 intro l
 induction l with
 | nil=>intro _;rfl
 | cons b t ih =>
   intro h;simp only [List.all_cons,Bool.and_eq_true] at h;have h1:=h.1;unfold Zj9 at h1;simp only [Bool.and_eq_true,decide_eq_true_eq] at h1;rw [Zzl t h1.2,h1.1,ih h.2]
   rfl
theorem Gf {l:List UInt8} (h:X7 l=true):Zm l=true:=by
 unfold X7 Ix at h;unfold Zm Ix
 cases hc:Jc l with
 | none=>rw [hc] at h;cases h
 | some cs=>simp
theorem Yiq:∀ b:UInt8,(b == 45 || Ip b)=true→Jz b=false∧Wf b=false∧Lf b=false∧(b == 35)=false∧b ≠ 46∧b ≠ 239∧b ≠ 34∧Zj9 b=true:=Y8 (by decide +kernel)
theorem S3:∀ b:UInt8,Ip b=true→Zj9 b=true:=Y8 (by decide +kernel)
theorem Yjy {a:UInt8} {p:List UInt8} {b:UInt8} {t:List UInt8} (h:b ≠ a):pre (a :: p) (b :: t)=false:=by
 unfold pre;rw [List.isPrefixOf_cons_cons];have:(a == b)=false:=by simpa using fun e=>h e.symm
 rw [this,Bool.false_and]
theorem Bc (l:List UInt8):(l.take (Xe l)).all Ip=true:=by
 unfold Xe;rw [← List.prefix_iff_eq_take.1 (List.takeWhile_prefix Ip)];exact List.all_takeWhile
theorem Ww {p:UInt8→Bool} {l:List UInt8} {a b:Nat} (h1:(l.take a).all p=true) (h2:((l.drop a).take b).all p=true):(l.take (a+b)).all p=true:=by
 rw [List.take_add,List.all_append,h1,h2];rfl
theorem Zje {p q:UInt8→Bool} (h:∀ b,p b=true→q b=true) {l:List UInt8} (hl:l.all p=true):l.all q=true:=by
 rw [List.all_eq_true] at *;exact fun x hx=>h x (hl x hx)
theorem Yd3 (l:List UInt8):(l.take (Vp l)).all Zj9=true:=by
 cases l with
 | nil=>rfl
 | cons b t =>
   simp only [Vp]
   split
   · rename_i h
     have hb:b=46:=by simpa using h
     subst hb
     split
     · rfl
     · refine Ww (a:=1) (by simp;decide) ?_
       exact Zje S3 (Bc t)
   · rfl
theorem Yf5 (l:List UInt8):(l.take (Xp l)).all Zj9=true:=by
 cases l with
 | nil=>rfl
 | cons b t =>
   simp only [Xp]
   split
   · rename_i h
     have hb:∀ b:UInt8,(b == 43 || b == 45)=true→Zj9 b=true:=Y8 (by decide +kernel);simp [hb b h]
   · rfl
theorem Ybh (l:List UInt8):(l.take (Jl l)).all Zj9=true:=by
 cases l with
 | nil=>rfl
 | cons b t =>
   simp only [Jl]
   split
   · rename_i h
     have hb:∀ b:UInt8,(b == 101 || b == 69)=true→Zj9 b=true:=Y8 (by decide +kernel)
     split
     · rfl
     · rw [Nat.add_assoc]
       refine Ww (a:=1) (by simp [hb b h]) ?_;exact Ww (Yf5 t) (Zje S3 (Bc _))
   · rfl
theorem Yao (l:List UInt8):(l.take (Yc l)).all Zj9=true:=by
 cases l with
 | nil=>rfl
 | cons b t =>
   simp only [Yc]
   split
   · rename_i h
     have hb:b=48:=by simpa using h
     subst hb;simp
     decide
   · exact Zje S3 (Bc _)
theorem Yak (l:List UInt8):(l.take (Zu l)).all Zj9=true:=by
 cases l with
 | nil=>rfl
 | cons b t =>
   simp only [Zu]
   split
   · rename_i h
     have hb:b=45:=by simpa using h
     subst hb;simp
     decide
   · rfl
theorem Tt (l:List UInt8):(l.take (nmL l).1).all Zj9=true:=by
 unfold nmL
 split
 · rfl
 · exact Ww (Ww (Ww (Yak l) (Yao _)) (Yd3 _)) (Ybh _)
theorem Qr {l:List UInt8} (h:(nmL l).1 ≠ 0):∃ b t,l=b :: t∧(b == 45 || Ip b)=true:=by
 cases l with
 | nil=>exact absurd (by rfl) h
 | cons b t =>
   refine ⟨b,t,rfl,?_⟩
   by_cases hb:(b == 45)=true
   · rw [hb];rfl
   · have hb':(b == 45)=false:=by simpa using hb
     rw [hb',Bool.false_or];have hm:Zu (b :: t)=0:=by simp only [Zu];rw [if_neg hb]
     have hw:Yc (b :: t) ≠ 0:=by
       intro hw
       apply h
       unfold nmL;rw [hm,List.drop_zero,if_pos hw]
     simp only [Yc] at hw
     by_cases h48:(b == 48)=true
     · have:b=48:=by simpa using h48
       subst this
       decide
     · rw [if_neg h48] at hw
       unfold Xe at hw;rw [List.takeWhile_cons] at hw
       by_cases hd:Ip b=true
       · exact hd
       · rw [if_neg hd] at hw
         exact absurd rfl hw
theorem Ox {l:List UInt8} (h:(nbL l).1 ≠ 0):(nbL l)=nmL l∧Jx (l.drop (nmL l).1)=false∧(nmL l).1 ≠ 0:=by
 unfold nbL at *
 by_cases h0:(nmL l).1=0
 · rw [if_pos h0] at h;exact absurd rfl h
 · rw [if_neg h0] at *
   cases hb:Jx (l.drop (nmL l).1)
   · simp [h0]
   · rw [hb] at h;exact absurd rfl h
theorem Zy0 {l:List UInt8} (h:(nbL l).1 ≠ 0):Jy l=0∧Lb l=some (((nbL l).2,l.take (nbL l).1),(nbL l).1):=by
 obtain ⟨_,_,h0⟩:=Ox h;obtain ⟨b,t,rfl,hb⟩:=Qr h0;obtain ⟨h1,h2,h3,h4,h5,h6,h7,_⟩:=Yiq b hb;have g:Jy (b :: t)=0:=by simp [Jy,h3,h4,Yjy h6]
 have m:J6 (b :: t)=0:=by simp [J6,h1,Yjy h5]
 have w:Je (b :: t)=0:=by simp [Je,h2]
 refine ⟨g,?_⟩;unfold Lb;rw [if_neg (by rw [m];simp),if_neg (by rw [w];simp),if_pos h]
theorem Sr {l:List UInt8} (h:(nmL l).1 ≠ 0):(nmL l).2=3∨(nmL l).2=4:=by
 unfold nmL at *
 split
 · rename_i hw;rw [if_pos hw] at h;exact absurd rfl h
 · simp only;split<;>simp
theorem Zzp {l:List UInt8} (h:Jf l ≠ 0):Ua l=some [(Jf l,l)]∧X7 l=true∧(Jf l=3∨Jf l=4):=by
 have hle:=Ws l
 have h1 : ¬ (nbL l).1 < l.length:=by
   intro hl;unfold Jf at h;rw [if_pos hl] at h;exact h rfl
 have hk:Jf l=(nbL l).2:=by unfold Jf;rw [if_neg h1]
 have hn:(nbL l).1 ≠ 0:=by
   intro h0;rw [hk] at h
   apply h
   unfold nbL at h0 ⊢
   by_cases hz:(nmL l).1=0
   · rw [if_pos hz]
   · rw [if_neg hz] at h0 ⊢
     cases hb:Jx (l.drop (nmL l).1)
     · rw [hb] at h0;exact absurd h0 hz
     · rfl
 have hlen:(nbL l).1=l.length:=by omega
 obtain ⟨e,_,hz⟩:=Ox hn;obtain ⟨g,t⟩:=Zy0 hn;refine ⟨?_,?_,?_⟩
 · rw [Bw g (by intro e;subst e;exact hn rfl) t,hlen,hk]
   simp [Dz]
 · have:=Tt l
   rw [← e,hlen,List.take_length] at this;exact Zq0 this
 · rw [hk,e];exact Sr hz
open Go.Shelf Go.RowKit
def Yn8:Go.Shelf.Ren:=⟨fun|99=>74|206=>101|n=>n,fun|3=>3|4=>4|5=>5|9=>9|n=>n,fun  | n=>n⟩
theorem Yh6:Go.Proofs.Lays.n99 Tryz.prog Yn8:={
 mixed:=by kernel_rfl
 f99:=Tryz.func74.trans (congrArg some (by kernel_rfl))
 f206:=Tryz.func101.trans (congrArg some (by kernel_rfl))
 t3:=Tryz.underlying3
 a3:=Tryz.isAgg3
 z3:=Tryz.sizeOf3
 v3:=Tryz.zeroValue3
 t4:=Tryz.underlying4
 a4:=Tryz.isAgg4
 z4:=Tryz.sizeOf4
 v4:=Tryz.zeroValue4
 t9:=Tryz.underlying9
 a9:=Tryz.isAgg9
 z9:=Tryz.sizeOf9
 v9:=Tryz.zeroValue9 }
theorem Rl (s p:ByteArray) (w:World):Calls Tryz.prog 74 #[.string s,.string p] w fun e w'=>e=.returned (.bool (Lib.hasPrefix s.data.toList p.data.toList))∧w'=w:=Any.strings_HasPrefix Yh6 s p w
def Yj5:Go.Shelf.Ren:=⟨fun|101=>78|206=>101|208=>104|n=>n,fun|3=>3|4=>4|5=>5|9=>9|n=>n,fun  | n=>n⟩
theorem Yax:Go.Proofs.Lays.n101 Tryz.prog Yj5:={
 mixed:=by kernel_rfl
 f101:=Tryz.func78.trans (congrArg some (by kernel_rfl))
 f206:=Tryz.func101.trans (congrArg some (by kernel_rfl))
 f208:=Tryz.func104.trans (congrArg some (by kernel_rfl))
 t3:=Tryz.underlying3
 a3:=Tryz.isAgg3
 z3:=Tryz.sizeOf3
 v3:=Tryz.zeroValue3
 t4:=Tryz.underlying4
 a4:=Tryz.isAgg4
 z4:=Tryz.sizeOf4
 v4:=Tryz.zeroValue4
 t9:=Tryz.underlying9
 a9:=Tryz.isAgg9
 z9:=Tryz.sizeOf9
 v9:=Tryz.zeroValue9 }
theorem Na (s p:ByteArray) (w:World):Calls Tryz.prog 78 #[.string s,.string p] w fun e w'=>e=.returned (.string ⟨(Lib.trimPrefix s.data.toList p.data.toList).toArray⟩)∧w'=w:=Any.strings_TrimPrefix Yax s p w
def Ylh:Go.Shelf.Ren:=⟨fun|103=>155|206=>101|210=>171|n=>n,fun|3=>3|4=>4|5=>5|9=>9|24=>126|n=>n,fun  | n=>n⟩
theorem Ygm:Go.Proofs.Lays.n103 Tryz.prog Ylh:={
 mixed:=by kernel_rfl
 f103:=Tryz.func155.trans (congrArg some (by kernel_rfl))
 f206:=Tryz.func101.trans (congrArg some (by kernel_rfl))
 f210:=Tryz.func171.trans (congrArg some (by kernel_rfl))
 t3:=Tryz.underlying3
 a3:=Tryz.isAgg3
 z3:=Tryz.sizeOf3
 v3:=Tryz.zeroValue3
 t4:=Tryz.underlying4
 a4:=Tryz.isAgg4
 z4:=Tryz.sizeOf4
 v4:=Tryz.zeroValue4
 t9:=Tryz.underlying9
 a9:=Tryz.isAgg9
 z9:=Tryz.sizeOf9
 v9:=Tryz.zeroValue9
 t24:=Tryz.underlying126
 a24:=Tryz.isAgg126
 z24:=Tryz.sizeOf126
 v24:=Tryz.zeroValue126 }
theorem Cg (s p:ByteArray) (w:World):Calls Tryz.prog 155 #[.string s,.string p] w fun e w'=>e=.returned (.tuple #[.string ⟨(Lib.trimPrefix s.data.toList p.data.toList).toArray⟩,.bool (Lib.hasPrefix s.data.toList p.data.toList)])∧w'=w:=Any.strings_CutPrefix Ygm s p w
def Ymh:Go.Shelf.Ren:=⟨fun|137=>75|217=>102|266=>128|n=>n,fun|3=>3|5=>5|9=>9|n=>n,fun  | n=>n⟩
theorem Yjb:Go.Proofs.Lays.n137 Tryz.prog Ymh:={
 mixed:=by kernel_rfl
 f137:=Tryz.func75.trans (congrArg some (by kernel_rfl))
 f217:=Tryz.func102.trans (congrArg some (by kernel_rfl))
 f266:=Tryz.func128.trans (congrArg some (by kernel_rfl))
 t3:=Tryz.underlying3
 a3:=Tryz.isAgg3
 z3:=Tryz.sizeOf3
 v3:=Tryz.zeroValue3
 t5:=Tryz.underlying5
 a5:=Tryz.isAgg5
 z5:=Tryz.sizeOf5
 v5:=Tryz.zeroValue5
 t9:=Tryz.underlying9
 a9:=Tryz.isAgg9
 z9:=Tryz.sizeOf9
 v9:=Tryz.zeroValue9 }
theorem Fz (s:ByteArray) (c:Int) (w:World):Calls Tryz.prog 75 #[.string s,.int .u8 c] w fun e w'=>e=.returned (.int .i64 (Lib.indexByte s.data.toList c.toNat.toUInt8))∧w'=w:=Any.strings_IndexByte Yjb s c w
def Yn5:Go.Shelf.Ren:=⟨fun|119=>138|137=>75|152=>110|217=>102|224=>139|225=>140|266=>128|n=>n,fun|0=>0|3=>3|4=>4|5=>5|9=>9|21=>21|46=>129|n=>n,fun  | n=>n⟩
theorem Yhj:Go.Proofs.Lays.n152 Tryz.prog Yn5:={
 mixed:=by kernel_rfl
 f119:=Tryz.func138.trans (congrArg some (by kernel_rfl))
 f137:=Tryz.func75.trans (congrArg some (by kernel_rfl))
 f152:=Tryz.func110.trans (congrArg some (by kernel_rfl))
 f217:=Tryz.func102.trans (congrArg some (by kernel_rfl))
 f224:=Tryz.func139.trans (congrArg some (by kernel_rfl))
 f225:=Tryz.func140.trans (congrArg some (by kernel_rfl))
 f266:=Tryz.func128.trans (congrArg some (by kernel_rfl))
 t0:=Tryz.underlying0
 a0:=Tryz.isAgg0
 z0:=Tryz.sizeOf0
 v0:=Tryz.zeroValue0
 t3:=Tryz.underlying3
 a3:=Tryz.isAgg3
 z3:=Tryz.sizeOf3
 v3:=Tryz.zeroValue3
 t4:=Tryz.underlying4
 a4:=Tryz.isAgg4
 z4:=Tryz.sizeOf4
 v4:=Tryz.zeroValue4
 t5:=Tryz.underlying5
 a5:=Tryz.isAgg5
 z5:=Tryz.sizeOf5
 v5:=Tryz.zeroValue5
 t9:=Tryz.underlying9
 a9:=Tryz.isAgg9
 z9:=Tryz.sizeOf9
 v9:=Tryz.zeroValue9
 t21:=Tryz.underlying21
 a21:=Tryz.isAgg21
 z21:=Tryz.sizeOf21
 v21:=Tryz.zeroValue21
 t46:=Tryz.underlying129
 a46:=Tryz.isAgg129
 z46:=Tryz.sizeOf129
 v46:=Tryz.zeroValue129 }
theorem Mh (s:ByteArray) (r:Int) (w:World) (h0:0≤r) (h1:r < 128):Calls Tryz.prog 110 #[.string s,.int .i32 r] w fun e w'=>e=.returned (.int .i64 (Lib.indexByte s.data.toList r.toNat.toUInt8))∧w'=w:=Any.strings_IndexRune_ascii Yhj s r w h0 h1
def Ydq:Go.Shelf.Ren:=⟨fun|119=>138|137=>75|152=>110|153=>84|217=>102|224=>139|225=>140|226=>111|227=>112|228=>113|266=>128|n=>n,fun|0=>0|3=>3|4=>4|5=>5|9=>9|21=>21|46=>129|116=>145|117=>146|124=>168|n=>n,fun  | n=>n⟩
theorem Yim:Go.Proofs.Lays.n153 Tryz.prog Ydq:={
 mixed:=by kernel_rfl
 f119:=Tryz.func138.trans (congrArg some (by kernel_rfl))
 f137:=Tryz.func75.trans (congrArg some (by kernel_rfl))
 f152:=Tryz.func110.trans (congrArg some (by kernel_rfl))
 f153:=Tryz.func84.trans (congrArg some (by kernel_rfl))
 f217:=Tryz.func102.trans (congrArg some (by kernel_rfl))
 f224:=Tryz.func139.trans (congrArg some (by kernel_rfl))
 f225:=Tryz.func140.trans (congrArg some (by kernel_rfl))
 f226:=Tryz.func111.trans (congrArg some (by kernel_rfl))
 f227:=Tryz.func112.trans (congrArg some (by kernel_rfl))
 f228:=Tryz.func113.trans (congrArg some (by kernel_rfl))
 f266:=Tryz.func128.trans (congrArg some (by kernel_rfl))
 t0:=Tryz.underlying0
 a0:=Tryz.isAgg0
 z0:=Tryz.sizeOf0
 v0:=Tryz.zeroValue0
 t3:=Tryz.underlying3
 a3:=Tryz.isAgg3
 z3:=Tryz.sizeOf3
 v3:=Tryz.zeroValue3
 t4:=Tryz.underlying4
 a4:=Tryz.isAgg4
 z4:=Tryz.sizeOf4
 v4:=Tryz.zeroValue4
 t5:=Tryz.underlying5
 a5:=Tryz.isAgg5
 z5:=Tryz.sizeOf5
 v5:=Tryz.zeroValue5
 t9:=Tryz.underlying9
 a9:=Tryz.isAgg9
 z9:=Tryz.sizeOf9
 v9:=Tryz.zeroValue9
 t21:=Tryz.underlying21
 a21:=Tryz.isAgg21
 z21:=Tryz.sizeOf21
 v21:=Tryz.zeroValue21
 t46:=Tryz.underlying129
 a46:=Tryz.isAgg129
 z46:=Tryz.sizeOf129
 v46:=Tryz.zeroValue129
 t116:=Tryz.underlying145
 a116:=Tryz.isAgg145
 z116:=Tryz.sizeOf145
 t117:=Tryz.underlying146
 a117:=Tryz.isAgg146
 z117:=Tryz.sizeOf146
 v117:=Tryz.zeroValue146
 t124:=Tryz.underlying168
 a124:=Tryz.isAgg168
 z124:=Tryz.sizeOf168
 v124:=Tryz.zeroValue168 }
theorem Ykp:(Tryz.prog.info? (Ydq.t 116)).map (fun i=>(i.zero,i.size))=some (some (.agg (Array.replicate 256 (.bool false))),256):=by kernel_rfl
theorem Qx (s chars:ByteArray) (w:World) (h2:2≤chars.size) (h8:8 < s.size) (hs:s.size < 4294967281) (hcs:chars.size < 4294967281) (hascii:∀ (j:Nat) b,chars.data.toList[j]? = some b→b.toNat < 128) :
  Calls Tryz.prog 84 #[.string s,.string chars] w fun e w'=>e=.returned (.int .i64 (Lib.indexAny s.data.toList chars.data.toList))∧Below w.heap.size w w':=
 (Any.strings_IndexAny_long Yim (zero_of_info Ykp).1 (zero_of_info Ykp).2 s chars w h2 h8 hs hcs hascii).mono fun _ _ ⟨he,hw⟩=>⟨he,by rw [hw];exact ((Below.refl _ _).alloc (Nat.le_refl _) _).alloc (by simp) _⟩
def Ykj:Go.Shelf.Ren:=⟨fun|166=>107|240=>135|276=>154|n=>n,fun|0=>0|3=>3|4=>4|5=>5|9=>9|20=>20|37=>128|70=>135|72=>137|75=>139|80=>47|164=>177|n=>n,fun  | n=>n⟩
theorem Ylv:Go.Proofs.Lays.n166 Tryz.prog Ykj:={
 mixed:=by kernel_rfl
 f166:=Tryz.func107.trans (congrArg some (by kernel_rfl))
 f240:=Tryz.func135.trans (congrArg some (by kernel_rfl))
 f276:=Tryz.func154.trans (congrArg some (by kernel_rfl))
 t0:=Tryz.underlying0
 a0:=Tryz.isAgg0
 z0:=Tryz.sizeOf0
 v0:=Tryz.zeroValue0
 t3:=Tryz.underlying3
 a3:=Tryz.isAgg3
 z3:=Tryz.sizeOf3
 v3:=Tryz.zeroValue3
 t4:=Tryz.underlying4
 a4:=Tryz.isAgg4
 z4:=Tryz.sizeOf4
 v4:=Tryz.zeroValue4
 t9:=Tryz.underlying9
 a9:=Tryz.isAgg9
 z9:=Tryz.sizeOf9
 v9:=Tryz.zeroValue9
 t20:=Tryz.underlying20
 a20:=Tryz.isAgg20
 z20:=Tryz.sizeOf20
 v20:=Tryz.zeroValue20
 t37:=Tryz.underlying128
 a37:=Tryz.isAgg128
 z37:=Tryz.sizeOf128
 v37:=Tryz.zeroValue128
 t70:=Tryz.underlying135
 a70:=Tryz.isAgg135
 z70:=Tryz.sizeOf135
 v70:=Tryz.zeroValue135
 t72:=Tryz.underlying137
 a72:=Tryz.isAgg137
 z72:=Tryz.sizeOf137
 v72:=Tryz.zeroValue137
 t75:=Tryz.underlying139
 a75:=Tryz.isAgg139
 z75:=Tryz.sizeOf139
 v75:=Tryz.zeroValue139
 t164:=Tryz.underlying177
 a164:=Tryz.isAgg177
 z164:=Tryz.sizeOf177
 v164:=Tryz.zeroValue177 }
theorem Yj0:Builder.Extra Tryz.prog Ykj:={
 sizeBuilder:=by kernel_rfl
 liesBuilder:=by kernel_rfl
 t5:=Tryz.underlying5
 a5:=Tryz.isAgg5
 z5:=Tryz.sizeOf5
 v5:=Tryz.zeroValue5
 infoByte:=by kernel_rfl
 cellsByte:=by kernel_rfl
 sizeByte:=by kernel_rfl
 neB5:=by decide }
theorem Mn (B b:Nat) (bs:List Value) (s:ByteArray) (w:World) (h:Lib.IsBuilderF 137 5 B b bs w) (hlen:bs.length+s.size≤140737488355328) (hBw:B≤w.heap.size) :
  Calls Tryz.prog 107 #[.pointer (some ⟨b,0,none⟩),.string s] w fun e w'=>e=.returned (.tuple #[.int .i64 s.size,.nilIface])∧(Lib.BuilderAtF 137 5 B b (.pointer (some ⟨b,0,none⟩)) (bs++Lib.strCells s) w'∧Below B w w'∧Lib.OthersKept 5 (some b) w w'):=
 Any.Builder_WriteString_k Ylv Yj0 B b bs s w h hlen hBw
def Yk6:Go.Shelf.Ren:=⟨fun|167=>108|240=>135|276=>154|n=>n,fun|0=>0|4=>4|5=>5|9=>9|20=>20|37=>128|70=>135|72=>137|75=>139|80=>47|164=>177|n=>n,fun  | n=>n⟩
theorem Ylc:Go.Proofs.Lays.n167 Tryz.prog Yk6:={
 mixed:=by kernel_rfl
 f167:=Tryz.func108.trans (congrArg some (by kernel_rfl))
 f240:=Tryz.func135.trans (congrArg some (by kernel_rfl))
 f276:=Tryz.func154.trans (congrArg some (by kernel_rfl))
 t0:=Tryz.underlying0
 a0:=Tryz.isAgg0
 z0:=Tryz.sizeOf0
 v0:=Tryz.zeroValue0
 t4:=Tryz.underlying4
 a4:=Tryz.isAgg4
 z4:=Tryz.sizeOf4
 v4:=Tryz.zeroValue4
 t5:=Tryz.underlying5
 a5:=Tryz.isAgg5
 z5:=Tryz.sizeOf5
 v5:=Tryz.zeroValue5
 t9:=Tryz.underlying9
 a9:=Tryz.isAgg9
 z9:=Tryz.sizeOf9
 v9:=Tryz.zeroValue9
 t20:=Tryz.underlying20
 a20:=Tryz.isAgg20
 z20:=Tryz.sizeOf20
 v20:=Tryz.zeroValue20
 t37:=Tryz.underlying128
 a37:=Tryz.isAgg128
 z37:=Tryz.sizeOf128
 v37:=Tryz.zeroValue128
 t70:=Tryz.underlying135
 a70:=Tryz.isAgg135
 z70:=Tryz.sizeOf135
 v70:=Tryz.zeroValue135
 t72:=Tryz.underlying137
 a72:=Tryz.isAgg137
 z72:=Tryz.sizeOf137
 v72:=Tryz.zeroValue137
 t75:=Tryz.underlying139
 a75:=Tryz.isAgg139
 z75:=Tryz.sizeOf139
 v75:=Tryz.zeroValue139
 t164:=Tryz.underlying177
 a164:=Tryz.isAgg177
 z164:=Tryz.sizeOf177
 v164:=Tryz.zeroValue177 }
theorem Yga:Builder.Extra Tryz.prog Yk6:={
 sizeBuilder:=by kernel_rfl
 liesBuilder:=by kernel_rfl
 t5:=Tryz.underlying5
 a5:=Tryz.isAgg5
 z5:=Tryz.sizeOf5
 v5:=Tryz.zeroValue5
 infoByte:=by kernel_rfl
 cellsByte:=by kernel_rfl
 sizeByte:=by kernel_rfl
 neB5:=by decide }
theorem Su (B b:Nat) (bs:List Value) (c:Int) (w:World) (h:Lib.IsBuilderF 137 5 B b bs w) (hlen:bs.length+1≤140737488355328) (hBw:B≤w.heap.size) :
  Calls Tryz.prog 108 #[.pointer (some ⟨b,0,none⟩),.int .u8 c] w fun e w'=>e=.returned .nilIface∧(Lib.BuilderAtF 137 5 B b (.pointer (some ⟨b,0,none⟩)) (bs++[.int .u8 c]) w'∧Below B w w'∧Lib.OthersKept 5 (some b) w w'):=
 Any.Builder_WriteByte_k Ylc Yga B b bs c w h hlen hBw
def Yc4:Go.Shelf.Ren:=⟨fun|129=>197|171=>189|205=>188|243=>190|245=>173|246=>191|279=>181|280=>182|281=>183|282=>184|283=>192|284=>193|285=>194|286=>195|316=>187|317=>196|318=>198|319=>199|320=>200|337=>201|338=>202|n=>n,fun|0=>0|2=>2|3=>3|4=>4|5=>5|9=>9|20=>20|37=>128|46=>129|51=>198|53=>180|75=>139|80=>47|127=>162|143=>202|145=>204|167=>193|168=>195|171=>206|173=>209|210=>200|212=>212|213=>213|232=>216|233=>217|n=>n,fun|15=>2|16=>3|17=>4|18=>5|19=>6|n=>n⟩
theorem Yjc:Go.Proofs.Lays.n245 Tryz.prog Yc4:={
 mixed:=by kernel_rfl
 f129:=Tryz.func197.trans (congrArg some (by kernel_rfl))
 f171:=Tryz.func189.trans (congrArg some (by kernel_rfl))
 f205:=Tryz.func188.trans (congrArg some (by kernel_rfl))
 f243:=Tryz.func190.trans (congrArg some (by kernel_rfl))
 f245:=Tryz.func173.trans (congrArg some (by kernel_rfl))
 f246:=Tryz.func191.trans (congrArg some (by kernel_rfl))
 f279:=Tryz.func181.trans (congrArg some (by kernel_rfl))
 f280:=Tryz.func182.trans (congrArg some (by kernel_rfl))
 f281:=Tryz.func183.trans (congrArg some (by kernel_rfl))
 f282:=Tryz.func184.trans (congrArg some (by kernel_rfl))
 f283:=Tryz.func192.trans (congrArg some (by kernel_rfl))
 f284:=Tryz.func193.trans (congrArg some (by kernel_rfl))
 f285:=Tryz.func194.trans (congrArg some (by kernel_rfl))
 f286:=Tryz.func195.trans (congrArg some (by kernel_rfl))
 f316:=Tryz.func187.trans (congrArg some (by kernel_rfl))
 f317:=Tryz.func196.trans (congrArg some (by kernel_rfl))
 f318:=Tryz.func198.trans (congrArg some (by kernel_rfl))
 f319:=Tryz.func199.trans (congrArg some (by kernel_rfl))
 f320:=Tryz.func200.trans (congrArg some (by kernel_rfl))
 f337:=Tryz.func201.trans (congrArg some (by kernel_rfl))
 f338:=Tryz.func202.trans (congrArg some (by kernel_rfl))
 t0:=Tryz.underlying0
 a0:=Tryz.isAgg0
 z0:=Tryz.sizeOf0
 v0:=Tryz.zeroValue0
 t2:=Tryz.underlying2
 a2:=Tryz.isAgg2
 z2:=Tryz.sizeOf2
 v2:=Tryz.zeroValue2
 t3:=Tryz.underlying3
 a3:=Tryz.isAgg3
 z3:=Tryz.sizeOf3
 v3:=Tryz.zeroValue3
 t4:=Tryz.underlying4
 a4:=Tryz.isAgg4
 z4:=Tryz.sizeOf4
 v4:=Tryz.zeroValue4
 t5:=Tryz.underlying5
 a5:=Tryz.isAgg5
 z5:=Tryz.sizeOf5
 v5:=Tryz.zeroValue5
 t9:=Tryz.underlying9
 a9:=Tryz.isAgg9
 z9:=Tryz.sizeOf9
 v9:=Tryz.zeroValue9
 t20:=Tryz.underlying20
 a20:=Tryz.isAgg20
 z20:=Tryz.sizeOf20
 v20:=Tryz.zeroValue20
 t37:=Tryz.underlying128
 a37:=Tryz.isAgg128
 z37:=Tryz.sizeOf128
 v37:=Tryz.zeroValue128
 t46:=Tryz.underlying129
 a46:=Tryz.isAgg129
 z46:=Tryz.sizeOf129
 v46:=Tryz.zeroValue129
 t51:=Tryz.underlying198
 a51:=Tryz.isAgg198
 z51:=Tryz.sizeOf198
 v51:=Tryz.zeroValue198
 t53:=Tryz.underlying180
 a53:=Tryz.isAgg180
 z53:=Tryz.sizeOf180
 v53:=Tryz.zeroValue180
 t75:=Tryz.underlying139
 a75:=Tryz.isAgg139
 z75:=Tryz.sizeOf139
 v75:=Tryz.zeroValue139
 t127:=Tryz.underlying162
 a127:=Tryz.isAgg162
 z127:=Tryz.sizeOf162
 v127:=Tryz.zeroValue162
 t143:=Tryz.underlying202
 a143:=Tryz.isAgg202
 z143:=Tryz.sizeOf202
 v143:=Tryz.zeroValue202
 t145:=Tryz.underlying204
 a145:=Tryz.isAgg204
 z145:=Tryz.sizeOf204
 v145:=Tryz.zeroValue204
 t167:=Tryz.underlying193
 a167:=Tryz.isAgg193
 z167:=Tryz.sizeOf193
 v167:=Tryz.zeroValue193
 t168:=Tryz.underlying195
 a168:=Tryz.isAgg195
 z168:=Tryz.sizeOf195
 v168:=Tryz.zeroValue195
 t171:=Tryz.underlying206
 a171:=Tryz.isAgg206
 z171:=Tryz.sizeOf206
 v171:=Tryz.zeroValue206
 t173:=Tryz.underlying209
 a173:=Tryz.isAgg209
 z173:=Tryz.sizeOf209
 v173:=Tryz.zeroValue209
 t210:=Tryz.underlying200
 a210:=Tryz.isAgg200
 z210:=Tryz.sizeOf200
 v210:=Tryz.zeroValue200
 t212:=Tryz.underlying212
 a212:=Tryz.isAgg212
 z212:=Tryz.sizeOf212
 v212:=Tryz.zeroValue212
 t213:=Tryz.underlying213
 a213:=Tryz.isAgg213
 z213:=Tryz.sizeOf213
 t232:=Tryz.underlying216
 a232:=Tryz.isAgg216
 z232:=Tryz.sizeOf216
 v232:=Tryz.zeroValue216
 t233:=Tryz.underlying217
 a233:=Tryz.isAgg217
 z233:=Tryz.sizeOf217
 v233:=Tryz.zeroValue217
 g15:=by kernel_rfl
 g16:=by kernel_rfl
 g17:=by kernel_rfl
 g18:=by kernel_rfl
 g19:=by kernel_rfl }
theorem Yj4:Go.Proofs.LaysM.n245 Tryz.prog Yc4:={ Yjc with
 t80:=Tryz.underlying47
 a80:=Tryz.isAgg47
 z80:=Tryz.sizeOf47
 v80:=Tryz.zeroValue47
 i0:=by kernel_rfl
 i2:=by kernel_rfl
 i3:=by kernel_rfl
 i4:=by kernel_rfl
 i5:=by kernel_rfl
 i9:=by kernel_rfl
 i20:=by kernel_rfl
 i37:=by kernel_rfl
 i46:=by kernel_rfl
 i51:=by kernel_rfl
 i53:=by kernel_rfl
 i75:=by kernel_rfl
 i80:=by kernel_rfl
 i127:=by kernel_rfl
 i143:=by kernel_rfl
 i145:=by kernel_rfl
 i167:=by kernel_rfl
 i168:=by kernel_rfl
 i171:=by kernel_rfl
 i173:=by kernel_rfl
 i210:=by kernel_rfl
 i212:=by kernel_rfl
 i232:=by kernel_rfl
 i233:=by kernel_rfl
 m15:=by kernel_rfl
 m16:=by kernel_rfl
 m17:=by kernel_rfl
 m18:=by kernel_rfl
 m19:=by kernel_rfl }
theorem Yne:Go.Proofs.LaysC.n245 Tryz.prog Yc4:={ Yj4 with
 c0:=by kernel_rfl
 c2:=by kernel_rfl
 c3:=by kernel_rfl
 c4:=by kernel_rfl
 c5:=by kernel_rfl
 c9:=by kernel_rfl
 c20:=by kernel_rfl
 c37:=by kernel_rfl
 c46:=by kernel_rfl
 c51:=by kernel_rfl
 c53:=by kernel_rfl
 c75:=by kernel_rfl
 c80:=by kernel_rfl
 c127:=by kernel_rfl
 c143:=by kernel_rfl
 c145:=by kernel_rfl
 c167:=by kernel_rfl
 c168:=by kernel_rfl
 c171:=by kernel_rfl
 c173:=by kernel_rfl
 c210:=by kernel_rfl
 c212:=by kernel_rfl
 c213:=by kernel_rfl
 c232:=by kernel_rfl
 c233:=by kernel_rfl }
theorem Ng (fn s:ByteArray) (base bits:Int) (ev:Value) (w:World) (hlim:s.size≤281474976710656) (hv:w.cell? ⟨2,0,none⟩=some ev) (hev:ev=.nilIface∨∃ te pe,ev=.iface te pe) :
  Calls Tryz.prog 173 #[.string fn,.string s,.int .i64 base,.int .i64 bits,.iface 193 (.int .i64 2)] w fun e w'=>∃ N,e=.returned (.iface 195 (.pointer (some ⟨N,0,none⟩)))∧Below w.heap.size w w':=
 (Any.strconv_toError_syntax Yne fn s base bits ev w hlim hv hev).mono fun _ _ ⟨N,he,_,_,hb⟩=>⟨N,he,hb⟩
end Go.Proofs.YtkmloefbkgcbkaaGreatDoor
