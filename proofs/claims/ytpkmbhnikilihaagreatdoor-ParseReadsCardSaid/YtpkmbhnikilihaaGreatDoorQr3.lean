/- Plain facts on tokens, of no program: what stands between them, numbers, words, marks, what quotes say, the tokens of a text. -/
import Derived.Test.YtpkmbhnikilihaaGreatDoorQr2
import Derived.Shelf.Strings.Prefix
import Derived.Shelf.Small.Strs
import Derived.Shelf.Strings.Runes
import Derived.Shelf.Strings.IndexAnyAll
import Derived.Shelf.Strconv.ToError
namespace Go.Proofs.YtpkmbhnikilihaaGreatDoor
def Iu (b:UInt8):Bool:=Qt (b.toNat:Int)
def Wj (b:UInt8):Bool:=Qw (b.toNat:Int)
def If (b:UInt8):Bool:=Wj b || Iu b
def Lg (b:UInt8):Bool:=b == 9 || b == 10 || b == 13 || b == 32 || b == 44
def V7 (b:UInt8):Bool:=!(b == 10 || b == 13)
def Vc (b:UInt8):Bool:=[33,36,38,40,41,58,61,64,91,93,123,124,125].contains b
def pre (p l:List UInt8):Bool:=p.isPrefixOf l
def V5:List UInt8→Nat
 | []=>0
 | b :: t=>if Lg b then 1 else if b == 35 then 1+(t.takeWhile V7).length else if pre [239,187,191] (b :: t) then 3 else 0
def Xe (l:List UInt8):Nat:=(l.takeWhile Iu).length
def Vp:List UInt8→Nat
 | []=>0
 | b :: t=>if b == 46 then (if Xe t=0 then 0 else 1+Xe t) else 0
def Xo:List UInt8→Nat
 | []=>0
 | b :: _=>if b == 43 || b == 45 then 1 else 0
def Js:List UInt8→Nat
 | []=>0
 | b :: t=>if b == 101 || b == 69 then (if Xe (t.drop (Xo t))=0 then 0 else 1+Xo t+Xe (t.drop (Xo t))) else 0
def Zm:List UInt8→Nat
 | []=>0
 | b :: _=>if b == 45 then 1 else 0
def Y4:List UInt8→Nat
 | []=>0
 | b :: t=>if b == 48 then 1 else Xe (b :: t)
def nmL (l:List UInt8):Nat × Int:=
 if Y4 (l.drop (Zm l))=0 then (0,0) else
  (Zm l+Y4 (l.drop (Zm l))+Vp (l.drop (Zm l+Y4 (l.drop (Zm l))))+Js (l.drop (Zm l+Y4 (l.drop (Zm l))+Vp (l.drop (Zm l+Y4 (l.drop (Zm l)))))),
   if Vp (l.drop (Zm l+Y4 (l.drop (Zm l))))=0∧Js (l.drop (Zm l+Y4 (l.drop (Zm l))+Vp (l.drop (Zm l+Y4 (l.drop (Zm l))))))=0 then 3 else 4)
def Vl:List UInt8→Bool
 | []=>false
 | b :: _=>Iu b || Wj b || b == 46
def nbL (l:List UInt8):Nat × Int:=
 if (nmL l).1=0 then (0,0) else if Vl (l.drop (nmL l).1) then (0,0) else nmL l
def Up (l:List UInt8):Int:=if (nbL l).1 < l.length then 0 else (nbL l).2
def Ji:List UInt8→Nat
 | []=>0
 | b :: t=>if Wj b then 1+(t.takeWhile If).length else 0
def J4:List UInt8→Nat
 | []=>0
 | b :: t=>if pre [46,46,46] (b :: t) then 3 else if Vc b then 1 else 0
def Ru (b:UInt8):Int:=
 if 48≤(b.toNat:Int)∧(b.toNat:Int)≤57 then (b.toNat:Int) - 48 else if 97≤(b.toNat:Int)∧(b.toNat:Int)≤102 then (b.toNat:Int) - 87 else if 65≤(b.toNat:Int)∧(b.toNat:Int)≤70 then (b.toNat:Int) - 55 else 16
def Ch (b:UInt8):Bool:=decide (Ru b < 16)
def Yk5 (a b c d:UInt8):Int:=((Ru a*16+Ru b)*16+Ru c)*16+Ru d
def Zg:List UInt8→Option Int
 | x :: y :: a :: b :: c :: d :: _=>if x == 92 && y == 117 && Ch a && Ch b && Ch c && Ch d then some (Yk5 a b c d) else none
 | _=>none
def Ls:Nat→List UInt8→List Int
 | 0,_=>[]
 | n+1,l=>match Zg l with|some u=>u :: Ls n (l.drop 6)|none=>[]
def Yv (l:List UInt8):List Int:=Ls l.length l
def Md (c:UInt8):Option UInt8:=
 if c == 34 then some 34 else if c == 92 then some 92 else if c == 47 then some 47 else if c == 98 then some 8 else if c == 102 then some 12 else if c == 110 then some 10 else if c == 114 then some 13 else if c == 116 then some 9 else none
def Ot (l:List UInt8):Option (List UInt8 × Nat):=
 if Yv l=[] then (match l with|_ :: c :: _=>(Md c).map fun x=>([x],2)|_=>none)
 else (Vq (Yv l)).map fun x=>(x,6*(Yv l).length)
def Ij:Nat→List UInt8→Option (List UInt8 × Nat)
 | 0,_=>none
 | _+1,[]=>none
 | n+1,b :: t =>
   if b == 34 then some ([],1) else if b == 10 || b == 13 then none else if b == 92 then
    (match Ot (b :: t) with
    | none=>none
    | some p=>(Ij n ((b :: t).drop p.2)).map fun q=>(p.1++q.1,p.2+q.2))
   else (Ij n t).map fun q=>(b :: q.1,1+q.2)
def J5 (l:List UInt8):Option (List UInt8 × Nat):=Ij (l.length+1) l
def Rh:Nat→List UInt8→Option (List UInt8 × Nat)
 | 0,_=>none
 | _+1,[]=>none
 | n+1,b :: t =>
   if pre [34,34,34] (b :: t) then some ([],3) else if pre [92,34,34,34] (b :: t) then (Rh n ((b :: t).drop 4)).map fun q=>([34,34,34]++q.1,4+q.2)
   else (Rh n t).map fun q=>(b :: q.1,1+q.2)
def P8 (l:List UInt8):Option (List UInt8 × Nat):=Rh (l.length+1) l
def Xq:List UInt8→Option (List UInt8 × Nat)
 | []=>none
 | b :: t=>if pre [34,34,34] (b :: t) then (P8 ((b :: t).drop 3)).map fun q=>(Blk.valueL q.1,3+q.2) else if b == 34 then (J5 t).map fun q=>(q.1,1+q.2) else none
def Lb (l:List UInt8):Option ((Int × List UInt8) × Nat):=
 if J4 l ≠ 0 then some ((1,l.take (J4 l)),J4 l)
 else if Ji l ≠ 0 then some ((2,l.take (Ji l)),Ji l)
 else if (nbL l).1 ≠ 0 then some (((nbL l).2,l.take (nbL l).1),(nbL l).1)
 else (Xq l).map fun q=>((5,q.1),q.2)
def Iz:Nat→List UInt8→Option (List (Int × List UInt8))
 | 0,_=>none
 | n+1,l =>
   if V5 l ≠ 0 then Iz n (l.drop (V5 l)) else if l=[] then some [] else
    match Lb l with
    | none=>none
    | some p=>(Iz n (l.drop p.2)).map (p.1 :: ·)
def Uc (l:List UInt8):Option (List (Int × List UInt8)):=Iz (l.length+1) l
theorem Va (p:UInt8→Bool) (l:List UInt8):(l.takeWhile p).length≤l.length:=(List.takeWhile_sublist p).length_le
theorem Vk {p l:List UInt8} (h:pre p l=true):p.length≤l.length:=by
 unfold pre at h
 rw [List.isPrefixOf_iff_prefix] at h
 exact h.length_le
theorem Ae (l:List UInt8):V5 l≤l.length:=by
 cases l with
 | nil=>simp [V5]
 | cons b t =>
   have:=Va V7 t
   simp only [V5]
   split
   · simp
   · split
     · simp only [List.length_cons];omega
     · split
       · rename_i h;have:=Vk h;simpa using this
       · simp
theorem Vn (l:List UInt8):Xe l≤l.length:=Va _ _
theorem Zku (l:List UInt8):Vp l≤l.length:=by
 cases l with
 | nil=>simp [Vp]
 | cons b t =>
   have:=Vn t
   simp only [Vp,List.length_cons]
   split
   · split<;>omega
   · omega
theorem Yfn (l:List UInt8):Xo l≤l.length:=by
 cases l with
 | nil=>simp [Xo]
 | cons b t=>simp only [Xo,List.length_cons];split<;>omega
theorem Zki (l:List UInt8):Js l≤l.length:=by
 cases l with
 | nil=>simp [Js]
 | cons b t =>
   have:=Yfn t
   have:=Vn (t.drop (Xo t))
   simp only [Js,List.length_cons,List.length_drop] at *
   split
   · split<;>omega
   · omega
theorem Tx (l:List UInt8):Zm l≤l.length:=by
 cases l with
 | nil=>simp [Zm]
 | cons b t=>simp only [Zm,List.length_cons];split<;>omega
theorem Bc (l:List UInt8):Y4 l≤l.length:=by
 cases l with
 | nil=>simp [Y4]
 | cons b t =>
   have:=Vn (b :: t)
   simp only [Y4]
   split
   · simp
   · exact this
theorem L6 (l:List UInt8):(nmL l).1≤l.length:=by
 unfold nmL
 split
 · simp
 · have h1:=Tx l
   have h2:=Bc (l.drop (Zm l))
   have h3:=Zku (l.drop (Zm l+Y4 (l.drop (Zm l))))
   have h4:=Zki (l.drop (Zm l+Y4 (l.drop (Zm l))+Vp (l.drop (Zm l+Y4 (l.drop (Zm l))))))
   simp only [List.length_drop] at *
   omega
theorem Wx (l:List UInt8):(nbL l).1≤l.length:=by
 have:=L6 l
 unfold nbL
 split
 · simp
 · split
   · simp
   · exact this
theorem Zjm (l:List UInt8):Ji l≤l.length:=by
 cases l with
 | nil=>simp [Ji]
 | cons b t =>
   have:=Va If t
   simp only [Ji,List.length_cons]
   split<;>omega
theorem Zkm (l:List UInt8):J4 l≤l.length:=by
 cases l with
 | nil=>simp [J4]
 | cons b t =>
   simp only [J4]
   split
   · rename_i h;have:=Vk h;simpa using this
   · simp only [List.length_cons];split<;>omega
theorem Ve {l:List UInt8} {u:Int} (h:Zg l=some u):6≤l.length:=by
 unfold Zg at h
 split at h
 · simp
 · cases h
theorem Yjp (b:UInt8):0≤Ru b∧Ru b≤16:=by
 unfold Ru
 split
 · omega
 · split
   · omega
   · split<;>omega
theorem Lu {b:UInt8} (h:Ch b=true):0≤Ru b∧Ru b≤15:=by
 have:=Yjp b
 unfold Ch at h
 simp at h
 omega
theorem S5 {l:List UInt8} {u:Int} (h:Zg l=some u):0≤u∧u≤65535:=by
 unfold Zg at h
 split at h
 · rename_i x y a b c d r
   split at h
   · rename_i hc
     simp only [Bool.and_eq_true] at hc
     obtain ⟨⟨⟨⟨_,ha⟩,hb⟩,hc⟩,hd⟩:=hc
     have:=Lu ha;have:=Lu hb;have:=Lu hc;have:=Lu hd
     injection h with h
     unfold Yk5 at h
     omega
   · cases h
 · cases h
theorem Mh:∀ (n m:Nat) (l:List UInt8),l.length≤n→l.length≤m→Ls n l=Ls m l:=by
 intro n
 induction n with
 | zero =>
   intro m l h _
   have:l=[]:=List.eq_nil_of_length_eq_zero (by omega)
   subst this
   cases m<;>rfl
 | succ n ih =>
   intro m l hn hm
   cases m with
   | zero =>
     have:l=[]:=List.eq_nil_of_length_eq_zero (by omega)
     subst this
     rfl
   | succ m =>
     simp only [Ls]
     cases hu:Zg l with
     | none=>rfl
     | some u =>
       have:=Ve hu
       simp only
       rw [ih m _ (by simp only [List.length_drop];omega) (by simp only [List.length_drop];omega)]
theorem U3 {l:List UInt8} (h:Zg l=none):Yv l=[]:=by
 unfold Yv
 cases l with
 | nil=>rfl
 | cons b t=>simp only [List.length_cons,Ls,h]
theorem Fr {l:List UInt8} {u:Int} (h:Zg l=some u):Yv l=u :: Yv (l.drop 6):=by
 have hl:=Ve h
 unfold Yv
 obtain ⟨n,hn⟩:∃ n,l.length=n+1:=⟨l.length - 1,by omega⟩
 rw [hn]
 simp only [Ls,h]
 rw [Mh n (l.drop 6).length _ (by simp only [List.length_drop];omega) (Nat.le_refl _)]
theorem Zy7:∀ (n:Nat) (l:List UInt8),l.length≤n→6*(Yv l).length≤l.length:=by
 intro n
 induction n with
 | zero =>
   intro l h
   have:l=[]:=List.eq_nil_of_length_eq_zero (by omega)
   subst this
   simp [Yv,Ls]
 | succ n ih =>
   intro l h
   cases hu:Zg l with
   | none=>rw [U3 hu];simp
   | some u =>
     have:=Ve hu
     have:=ih (l.drop 6) (by simp only [List.length_drop];omega)
     rw [Fr hu]
     simp only [List.length_drop,List.length_cons] at *
     omega
theorem Rg {l:List UInt8} {p:List UInt8 × Nat} (h:Ot l=some p):2≤p.2∧p.2≤l.length:=by
 unfold Ot at h
 have:=Zy7 l.length l (Nat.le_refl _)
 split at h
 · split at h
   · obtain ⟨x,_,rfl⟩:=Option.map_eq_some_iff.1 h
     simp
   · cases h
 · rename_i hn
   obtain ⟨x,_,rfl⟩:=Option.map_eq_some_iff.1 h
   have:(Yv l).length ≠ 0:=fun e=>hn (List.eq_nil_of_length_eq_zero e)
   simp only
   omega
theorem Yey:∀ (n:Nat) (l:List UInt8) (p:List UInt8 × Nat),Ij n l=some p→1≤p.2∧p.2≤l.length:=by
 intro n
 induction n with
 | zero=>intro l p h;cases h
 | succ n ih =>
   intro l p h
   cases l with
   | nil=>cases h
   | cons b t =>
     simp only [Ij] at h
     split at h
     · injection h with h;subst h;simp
     · split at h
       · cases h
       · split at h
         · split at h
           · cases h
           · rename_i e he
             obtain ⟨q,hq,rfl⟩:=Option.map_eq_some_iff.1 h
             have:=ih _ _ hq
             have:=Rg he
             simp only [List.length_drop] at *
             omega
         · obtain ⟨q,hq,rfl⟩:=Option.map_eq_some_iff.1 h
           have:=ih _ _ hq
           simp only [List.length_cons] at *
           omega
theorem Zq2:∀ (n m:Nat) (l:List UInt8),l.length < n→l.length < m→Ij n l=Ij m l:=by
 intro n
 induction n with
 | zero=>intro m l h;omega
 | succ n ih =>
   intro m l hn hm
   cases m with
   | zero=>omega
   | succ m =>
     cases l with
     | nil=>rfl
     | cons b t =>
       simp only [List.length_cons] at hn hm
       simp only [Ij]
       rw [ih m t (by omega) (by omega)]
       cases he:Ot (b :: t) with
       | none=>rfl
       | some e =>
         have:=Rg he
         simp only
         rw [ih m _ (by simp only [List.length_drop,List.length_cons];omega) (by simp only [List.length_drop,List.length_cons];omega)]
theorem Xg (b:UInt8) (t:List UInt8):J5 (b :: t) =
   if b == 34 then some ([],1) else if b == 10 || b == 13 then none else if b == 92 then
    (match Ot (b :: t) with
    | none=>none
    | some p=>(J5 ((b :: t).drop p.2)).map fun q=>(p.1++q.1,p.2+q.2))
   else (J5 t).map fun q=>(b :: q.1,1+q.2):=by
 show Ij (t.length+1+1) (b :: t)=_
 simp only [Ij]
 cases he:Ot (b :: t) with
 | none=>rfl
 | some e =>
   have:=Rg he
   simp only
   rw [Zq2 (t.length+1) (((b :: t).drop e.2).length+1) ((b :: t).drop e.2) (by simp only [List.length_drop,List.length_cons];omega) (by omega)]
   rfl
theorem Ycc:∀ (n:Nat) (l:List UInt8) (p:List UInt8 × Nat),Rh n l=some p→3≤p.2∧p.2≤l.length∧p.1.length+3≤p.2:=by
 intro n
 induction n with
 | zero=>intro l p h;cases h
 | succ n ih =>
   intro l p h
   cases l with
   | nil=>cases h
   | cons b t =>
     simp only [Rh] at h
     split at h
     · rename_i hp
       have:=Vk hp
       injection h with h;subst h;simpa using this
     · split at h
       · rename_i hp
         have:=Vk hp
         obtain ⟨q,hq,rfl⟩:=Option.map_eq_some_iff.1 h
         have:=ih _ _ hq
         simp only [List.length_drop,List.length_cons,List.length_nil,List.length_append] at *
         omega
       · obtain ⟨q,hq,rfl⟩:=Option.map_eq_some_iff.1 h
         have:=ih _ _ hq
         simp only [List.length_cons] at *
         omega
theorem Zzv:∀ (n m:Nat) (l:List UInt8),l.length < n→l.length < m→Rh n l=Rh m l:=by
 intro n
 induction n with
 | zero=>intro m l h;omega
 | succ n ih =>
   intro m l hn hm
   cases m with
   | zero=>omega
   | succ m =>
     cases l with
     | nil=>rfl
     | cons b t =>
       simp only [List.length_cons] at hn hm
       simp only [Rh]
       rw [ih m t (by omega) (by omega),ih m ((b :: t).drop 4) (by simp only [List.length_drop,List.length_cons];omega) (by simp only [List.length_drop,List.length_cons];omega)]
theorem Cp (b:UInt8) (t:List UInt8):P8 (b :: t) =
  if pre [34,34,34] (b :: t) then some ([],3) else if pre [92,34,34,34] (b :: t) then (P8 ((b :: t).drop 4)).map fun q=>([34,34,34]++q.1,4+q.2)
  else (P8 t).map fun q=>(b :: q.1,1+q.2):=by
 show Rh (t.length+1+1) (b :: t)=_
 simp only [Rh]
 rw [Zzv (t.length+1) (((b :: t).drop 4).length+1) ((b :: t).drop 4) (by simp only [List.length_drop,List.length_cons];omega) (by omega)]
 rfl
theorem W6 {l:List UInt8} {p:List UInt8 × Nat} (h:Xq l=some p):1≤p.2∧p.2≤l.length:=by
 cases l with
 | nil=>cases h
 | cons b t =>
   simp only [Xq] at h
   split at h
   · obtain ⟨q,hq,rfl⟩:=Option.map_eq_some_iff.1 h
     have:=Ycc _ _ _ hq
     simp only [List.length_drop,List.length_cons] at *
     omega
   · split at h
     · obtain ⟨q,hq,rfl⟩:=Option.map_eq_some_iff.1 h
       have:=Yey _ _ _ hq
       simp only [List.length_cons] at *
       omega
     · cases h
theorem Zqy {l:List UInt8} {p:(Int × List UInt8) × Nat} (h:Lb l=some p):1≤p.2∧p.2≤l.length:=by
 have h1:=Zkm l
 have h2:=Zjm l
 have h3:=Wx l
 unfold Lb at h
 split at h
 · injection h with h;subst h;simp only;omega
 · split at h
   · injection h with h;subst h;simp only;omega
   · split at h
     · injection h with h;subst h;simp only;omega
     · obtain ⟨q,hq,rfl⟩:=Option.map_eq_some_iff.1 h
       exact W6 hq
theorem Ou : ∀ (n m:Nat) (l:List UInt8),l.length < n→l.length < m→Iz n l=Iz m l:=by
 intro n
 induction n with
 | zero=>intro m l h;omega
 | succ n ih =>
   intro m l hn hm
   cases m with
   | zero=>omega
   | succ m =>
     simp only [Iz]
     split
     · rename_i hg
       have:=Ae l
       rw [ih m _ (by simp only [List.length_drop];omega) (by simp only [List.length_drop];omega)]
     · split
       · rfl
       · cases ht:Lb l with
         | none=>rfl
         | some p =>
           have:=Zqy ht
           simp only
           rw [ih m _ (by simp only [List.length_drop];omega) (by simp only [List.length_drop];omega)]
theorem Dz:Uc []=some []:=rfl
theorem Rz {l:List UInt8} (h:V5 l ≠ 0):Uc l=Uc (l.drop (V5 l)):=by
 have:=Ae l
 show Iz (l.length+1) l=_
 simp only [Iz,if_pos h]
 exact Ou _ _ _ (by simp only [List.length_drop];omega) (by omega)
theorem Bh {l:List UInt8} {p:(Int × List UInt8) × Nat} (h:V5 l=0) (hn:l ≠ []) (ht:Lb l=some p):Uc l=(Uc (l.drop p.2)).map (p.1 :: ·):=by
 have:=Zqy ht
 show Iz (l.length+1) l=_
 simp only [Iz,h,ne_eq,not_true,if_false,if_neg hn,ht]
 rw [Ou l.length ((l.drop p.2).length+1) _ (by simp only [List.length_drop];omega) (by omega)]
 rfl
theorem Nv {l:List UInt8} (h:V5 l=0) (hn:l ≠ []) (ht:Lb l=none):Uc l=none:=by
 show Iz (l.length+1) l=_
 simp only [Iz,h,ne_eq,not_true,if_false,if_neg hn,ht]
theorem Zw {P:UInt8→Prop} (h:∀ a:Fin 256,P (UInt8.ofNat a.val)) (b:UInt8):P b:=by
 have:=h ⟨b.toNat,UInt8.toNat_lt b⟩
 simpa using this
def Ia (us:List Int) (l:List UInt8):Option (List UInt8 × Nat):=
 match Vq (us++Yv l) with
 | none=>none
 | some x=>(J5 (l.drop (6*(Yv l).length))).map fun q=>(x++q.1,6*(Yv l).length+q.2)
theorem Yba:Vq []=some []:=rfl
theorem Cg {l:List UInt8} {u:Int} (h:Zg l=some u):∃ t,l=92 :: 117 :: t:=by
 unfold Zg at h
 split at h
 · rename_i x y a b c d r
   split at h
   · rename_i hc
     simp only [Bool.and_eq_true,beq_iff_eq] at hc
     obtain ⟨⟨⟨⟨⟨rfl,rfl⟩,_⟩,_⟩,_⟩,_⟩:=hc
     exact ⟨_,rfl⟩
   · cases h
 · cases h
theorem Ya4 {l:List UInt8} (h:Yv l ≠ []):∃ t,l=92 :: 117 :: t:=by
 cases hu:Zg l with
 | none=>exact absurd (U3 hu) h
 | some u=>exact Cg hu
theorem Ykh {o:Option (List UInt8 × Nat)} : (o.map fun q=>(([]:List UInt8)++q.1,0+q.2))=o:=by
 cases o<;>simp
theorem Vm (l:List UInt8):Ia [] l=J5 l:=by
 unfold Ia
 by_cases h:Yv l=[]
 · rw [h,List.append_nil,Yba]
   simp only [List.length_nil,Nat.mul_zero,List.drop_zero]
   exact Ykh
 · obtain ⟨t,rfl⟩:=Ya4 h
   rw [Xg,List.nil_append]
   have e:Ot (92 :: 117 :: t)=(Vq (Yv (92 :: 117 :: t))).map fun x=>(x,6*(Yv (92 :: 117 :: t)).length):=by
    unfold Ot
    rw [if_neg h]
   rw [e]
   cases Vq (Yv (92 :: 117 :: t)) with
   | none=>rfl
   | some x=>rfl
theorem Zvy {us:List Int} {l:List UInt8} {u:Int} (h:Zg l=some u):Ia us l=(Ia (us++[u]) (l.drop 6)).map fun q=>(q.1,6+q.2):=by
 unfold Ia
 rw [Fr h,List.append_assoc,List.singleton_append]
 cases Vq (us++u :: Yv (l.drop 6)) with
 | none=>rfl
 | some x =>
   simp only [List.length_cons,List.drop_drop,Option.map_map]
   rw [show 6+6*(Yv (l.drop 6)).length=6*((Yv (l.drop 6)).length+1) by omega]
   congr 1
   funext q
   simp only [Function.comp,Prod.mk.injEq,true_and]
   omega
theorem Ok {us:List Int} {l:List UInt8} (h:Zg l=none):Ia us l=match Vq us with|none=>none|some x=>(J5 l).map fun q=>(x++q.1,q.2):=by
 unfold Ia
 rw [U3 h,List.append_nil]
 cases Vq us with
 | none=>rfl
 | some x =>
   simp only [List.length_nil,Nat.mul_zero,List.drop_zero]
   congr 1
   funext q
   simp
theorem Ydq (l:List UInt8):Up l=if (nmL l).1 ≠ l.length then 0 else (nmL l).2:=by
 have hle:=L6 l
 unfold Up nbL
 by_cases h0:(nmL l).1=0
 · have h2:(nmL l).2=0:=by
     unfold nmL at h0 ⊢
     split
     · rfl
     · rename_i hw
       rw [if_neg hw] at h0
       simp only at h0
       omega
   rw [if_pos h0]
   simp only [h0,h2]
   split<;>split<;>rfl
 · rw [if_neg h0]
   cases hb:Vl (l.drop (nmL l).1)
   · simp only [Bool.false_eq_true,if_false]
     by_cases hl:(nmL l).1 < l.length
     · rw [if_pos hl,if_pos (by omega)]
     · rw [if_neg hl,if_neg (by omega)]
   · have hne:l.drop (nmL l).1 ≠ []:=by intro e;rw [e] at hb;cases hb
     have:(nmL l).1 ≠ l.length:=fun e=>hne (by rw [e];simp)
     simp only [if_true]
     rw [if_pos this]
     split<;>rfl
def Zzy (b:UInt8):Bool:=Ybz (b.toNat:Int) && decide (b.toNat < 128)
theorem Cv {b:UInt8} (t:List UInt8) (h:b.toNat < 128):dec (b :: t)=((b.toNat:Int),1):=by
 have h0:byt (b :: t) 0=(b.toNat:Int):=rfl
 refine Ck (k:=0) (by omega) (by simp) ?_ rfl ?_ ?_
 · rw [h0];unfold Xr;simp [U0,Aw];omega
 · show byt (b :: t) 0 - U0 0=_;rw [h0];simp [U0]
 · unfold Qn Lp X3;simp;omega
theorem Zqt {b:UInt8} (t:List UInt8) (h:b.toNat < 128):Yz (b :: t)=(Ybz (b.toNat:Int) && Yz t):=by
 unfold Yz
 rw [Oh (by simp) (by rw [Cv t h];simp),Cv t h]
 rfl
theorem Zd {b:UInt8} (t:List UInt8) (h:b.toNat < 128):Zi (b :: t)=Zi t:=by
 unfold Zi
 rw [Oh (by simp) (by rw [Cv t h];simp),Cv t h]
 simp
theorem Td:∀ {l:List UInt8},l.all Zzy=true→Yz l=true:=by
 intro l
 induction l with
 | nil=>intro _;rfl
 | cons b t ih =>
   intro h
   simp only [List.all_cons,Bool.and_eq_true] at h
   have h1:=h.1
   unfold Zzy at h1
   simp only [Bool.and_eq_true,decide_eq_true_eq] at h1
   rw [Zqt t h1.2,h1.1,ih h.2]
   rfl
theorem Gq {l:List UInt8} (h:Yz l=true):Zi l=true:=by
 unfold Yz F0 at h
 unfold Zi F0
 cases hc:Jc l with
 | none=>rw [hc] at h;cases h
 | some cs=>simp
theorem Ye5:∀ b:UInt8,(b == 45 || Iu b)=true→Vc b=false∧Wj b=false∧Lg b=false∧(b == 35)=false∧b ≠ 46∧b ≠ 239∧b ≠ 34∧Zzy b=true:=Zw (by decide +kernel)
theorem Pt:∀ b:UInt8,Iu b=true→Zzy b=true:=Zw (by decide +kernel)
theorem Yib {a:UInt8} {p:List UInt8} {b:UInt8} {t:List UInt8} (h:b ≠ a):pre (a :: p) (b :: t)=false:=by
 unfold pre
 rw [List.isPrefixOf_cons_cons]
 have:(a == b)=false:=by simpa using fun e=>h e.symm
 rw [this,Bool.false_and]
theorem Bm (l:List UInt8):(l.take (Xe l)).all Iu=true:=by
 unfold Xe
 rw [← List.prefix_iff_eq_take.1 (List.takeWhile_prefix Iu)]
 exact List.all_takeWhile
theorem Oa {p:UInt8→Bool} {l:List UInt8} {a b:Nat} (h1:(l.take a).all p=true) (h2:((l.drop a).take b).all p=true):(l.take (a+b)).all p=true:=by
 rw [List.take_add,List.all_append,h1,h2];rfl
theorem Zqo {p q:UInt8→Bool} (h:∀ b,p b=true→q b=true) {l:List UInt8} (hl:l.all p=true):l.all q=true:=by
 rw [List.all_eq_true] at *
 exact fun x hx=>h x (hl x hx)
theorem Zyn (l:List UInt8):(l.take (Vp l)).all Zzy=true:=by
 cases l with
 | nil=>rfl
 | cons b t =>
   simp only [Vp]
   split
   · rename_i h
     have hb:b=46:=by simpa using h
     subst hb
     split
     · rfl
     · refine Oa (a:=1) (by simp;decide) ?_
       exact Zqo Pt (Bm t)
   · rfl
theorem Ycu (l:List UInt8):(l.take (Xo l)).all Zzy=true:=by
 cases l with
 | nil=>rfl
 | cons b t =>
   simp only [Xo]
   split
   · rename_i h
     have hb:∀ b:UInt8,(b == 43 || b == 45)=true→Zzy b=true:=Zw (by decide +kernel)
     simp [hb b h]
   · rfl
theorem Ybq (l:List UInt8):(l.take (Js l)).all Zzy=true:=by
 cases l with
 | nil=>rfl
 | cons b t =>
   simp only [Js]
   split
   · rename_i h
     have hb:∀ b:UInt8,(b == 101 || b == 69)=true→Zzy b=true:=Zw (by decide +kernel)
     split
     · rfl
     · rw [Nat.add_assoc]
       refine Oa (a:=1) (by simp [hb b h]) ?_
       exact Oa (Ycu t) (Zqo Pt (Bm _))
   · rfl
theorem Zvt (l:List UInt8):(l.take (Y4 l)).all Zzy=true:=by
 cases l with
 | nil=>rfl
 | cons b t =>
   simp only [Y4]
   split
   · rename_i h
     have hb:b=48:=by simpa using h
     subst hb
     simp
     decide
   · exact Zqo Pt (Bm _)
theorem Zvc (l:List UInt8):(l.take (Zm l)).all Zzy=true:=by
 cases l with
 | nil=>rfl
 | cons b t =>
   simp only [Zm]
   split
   · rename_i h
     have hb:b=45:=by simpa using h
     subst hb
     simp
     decide
   · rfl
theorem Sr (l:List UInt8):(l.take (nmL l).1).all Zzy=true:=by
 unfold nmL
 split
 · rfl
 · exact Oa (Oa (Oa (Zvc l) (Zvt _)) (Zyn _)) (Ybq _)
theorem Qj {l:List UInt8} (h:(nmL l).1 ≠ 0):∃ b t,l=b :: t∧(b == 45 || Iu b)=true:=by
 cases l with
 | nil=>exact absurd (by rfl) h
 | cons b t =>
   refine ⟨b,t,rfl,?_⟩
   by_cases hb:(b == 45)=true
   · rw [hb];rfl
   · have hb':(b == 45)=false:=by simpa using hb
     rw [hb',Bool.false_or]
     have hm:Zm (b :: t)=0:=by simp only [Zm];rw [if_neg hb]
     have hw:Y4 (b :: t) ≠ 0:=by
       intro hw
       apply h
       unfold nmL
       rw [hm,List.drop_zero,if_pos hw]
     simp only [Y4] at hw
     by_cases h48:(b == 48)=true
     · have:b=48:=by simpa using h48
       subst this
       decide
     · rw [if_neg h48] at hw
       unfold Xe at hw
       rw [List.takeWhile_cons] at hw
       by_cases hd:Iu b=true
       · exact hd
       · rw [if_neg hd] at hw
         exact absurd rfl hw
theorem Om {l:List UInt8} (h:(nbL l).1 ≠ 0):(nbL l)=nmL l∧Vl (l.drop (nmL l).1)=false∧(nmL l).1 ≠ 0:=by
 unfold nbL at *
 by_cases h0:(nmL l).1=0
 · rw [if_pos h0] at h;exact absurd rfl h
 · rw [if_neg h0] at *
   cases hb:Vl (l.drop (nmL l).1)
   · simp [h0]
   · rw [hb] at h;exact absurd rfl h
theorem Zx7 {l:List UInt8} (h:(nbL l).1 ≠ 0):V5 l=0∧Lb l=some (((nbL l).2,l.take (nbL l).1),(nbL l).1):=by
 obtain ⟨_,_,h0⟩:=Om h
 obtain ⟨b,t,rfl,hb⟩:=Qj h0
 obtain ⟨h1,h2,h3,h4,h5,h6,h7,_⟩:=Ye5 b hb
 have g:V5 (b :: t)=0:=by simp [V5,h3,h4,Yib h6]
 have m:J4 (b :: t)=0:=by simp [J4,h1,Yib h5]
 have w:Ji (b :: t)=0:=by simp [Ji,h2]
 refine ⟨g,?_⟩
 unfold Lb
 rw [if_neg (by rw [m];simp),if_neg (by rw [w];simp),if_pos h]
theorem Si {l:List UInt8} (h:(nmL l).1 ≠ 0):(nmL l).2=3∨(nmL l).2=4:=by
 unfold nmL at *
 split
 · rename_i hw;rw [if_pos hw] at h;exact absurd rfl h
 · simp only;split<;>simp
theorem Zzx {l:List UInt8} (h:Up l ≠ 0):Uc l=some [(Up l,l)]∧Yz l=true∧(Up l=3∨Up l=4):=by
 have hle:=Wx l
 have h1 : ¬ (nbL l).1 < l.length:=by
   intro hl
   unfold Up at h
   rw [if_pos hl] at h
   exact h rfl
 have hk:Up l=(nbL l).2:=by unfold Up;rw [if_neg h1]
 have hn:(nbL l).1 ≠ 0:=by
   intro h0
   rw [hk] at h
   apply h
   unfold nbL at h0 ⊢
   by_cases hz:(nmL l).1=0
   · rw [if_pos hz]
   · rw [if_neg hz] at h0 ⊢
     cases hb:Vl (l.drop (nmL l).1)
     · rw [hb] at h0;exact absurd h0 hz
     · rfl
 have hlen:(nbL l).1=l.length:=by omega
 obtain ⟨e,_,hz⟩:=Om hn
 obtain ⟨g,t⟩:=Zx7 hn
 refine ⟨?_,?_,?_⟩
 · rw [Bh g (by intro e;subst e;exact hn rfl) t,hlen,hk]
   simp [Dz]
 · have:=Sr l
   rw [← e,hlen,List.take_length] at this
   exact Td this
 · rw [hk,e];exact Si hz
open Go.Shelf Go.RowKit
def Yjr:Go.Shelf.Ren:=⟨fun|99=>199|206=>248|n=>n,fun|3=>3|4=>4|5=>5|9=>9|n=>n,fun  | n=>n⟩
theorem Yhc:Go.Proofs.Lays.n99 Tryz.prog Yjr:={
 mixed:=by kernel_rfl
 f99:=Tryz.func199.trans (congrArg some (by kernel_rfl))
 f206:=Tryz.func248.trans (congrArg some (by kernel_rfl))
 t3:=Tryz.underlying3
 a3:=Tryz.isAgg3
 z3:=Tryz.sizeOf3
 v3:=Tryz.zeroValue3
 t4:=Tryz.underlying4
 a4:=Tryz.isAgg4
 z4:=Tryz.sizeOf4
 v4:=Tryz.zeroValue4
 t9:=Tryz.underlying9
 a9:=Tryz.isAgg9
 z9:=Tryz.sizeOf9
 v9:=Tryz.zeroValue9 }
theorem Pn (s p:ByteArray) (w:World):Calls Tryz.prog 199 #[.string s,.string p] w fun e w'=>e=.returned (.bool (Lib.hasPrefix s.data.toList p.data.toList))∧w'=w:=Any.strings_HasPrefix Yhc s p w
def Yep:Go.Shelf.Ren:=⟨fun|101=>225|206=>248|208=>260|n=>n,fun|3=>3|4=>4|5=>5|9=>9|n=>n,fun  | n=>n⟩
theorem Zyz:Go.Proofs.Lays.n101 Tryz.prog Yep:={
 mixed:=by kernel_rfl
 f101:=Tryz.func225.trans (congrArg some (by kernel_rfl))
 f206:=Tryz.func248.trans (congrArg some (by kernel_rfl))
 f208:=Tryz.func260.trans (congrArg some (by kernel_rfl))
 t3:=Tryz.underlying3
 a3:=Tryz.isAgg3
 z3:=Tryz.sizeOf3
 v3:=Tryz.zeroValue3
 t4:=Tryz.underlying4
 a4:=Tryz.isAgg4
 z4:=Tryz.sizeOf4
 v4:=Tryz.zeroValue4
 t9:=Tryz.underlying9
 a9:=Tryz.isAgg9
 z9:=Tryz.sizeOf9
 v9:=Tryz.zeroValue9 }
theorem Mi (s p:ByteArray) (w:World):Calls Tryz.prog 225 #[.string s,.string p] w fun e w'=>e=.returned (.string ⟨(Lib.trimPrefix s.data.toList p.data.toList).toArray⟩)∧w'=w:=Any.strings_TrimPrefix Zyz s p w
def Yk8:Go.Shelf.Ren:=⟨fun|103=>304|206=>248|210=>309|n=>n,fun|3=>3|4=>4|5=>5|9=>9|24=>49|n=>n,fun  | n=>n⟩
theorem Yfq:Go.Proofs.Lays.n103 Tryz.prog Yk8:={
 mixed:=by kernel_rfl
 f103:=Tryz.func304.trans (congrArg some (by kernel_rfl))
 f206:=Tryz.func248.trans (congrArg some (by kernel_rfl))
 f210:=Tryz.func309.trans (congrArg some (by kernel_rfl))
 t3:=Tryz.underlying3
 a3:=Tryz.isAgg3
 z3:=Tryz.sizeOf3
 v3:=Tryz.zeroValue3
 t4:=Tryz.underlying4
 a4:=Tryz.isAgg4
 z4:=Tryz.sizeOf4
 v4:=Tryz.zeroValue4
 t9:=Tryz.underlying9
 a9:=Tryz.isAgg9
 z9:=Tryz.sizeOf9
 v9:=Tryz.zeroValue9
 t24:=Tryz.underlying49
 a24:=Tryz.isAgg49
 z24:=Tryz.sizeOf49
 v24:=Tryz.zeroValue49 }
theorem Wd (s p:ByteArray) (w:World):Calls Tryz.prog 304 #[.string s,.string p] w fun e w'=>e=.returned (.tuple #[.string ⟨(Lib.trimPrefix s.data.toList p.data.toList).toArray⟩,.bool (Lib.hasPrefix s.data.toList p.data.toList)])∧w'=w:=Any.strings_CutPrefix Yfq s p w
def Yl2:Go.Shelf.Ren:=⟨fun|137=>200|217=>249|266=>282|n=>n,fun|3=>3|5=>5|9=>9|n=>n,fun  | n=>n⟩
theorem Ygx:Go.Proofs.Lays.n137 Tryz.prog Yl2:={
 mixed:=by kernel_rfl
 f137:=Tryz.func200.trans (congrArg some (by kernel_rfl))
 f217:=Tryz.func249.trans (congrArg some (by kernel_rfl))
 f266:=Tryz.func282.trans (congrArg some (by kernel_rfl))
 t3:=Tryz.underlying3
 a3:=Tryz.isAgg3
 z3:=Tryz.sizeOf3
 v3:=Tryz.zeroValue3
 t5:=Tryz.underlying5
 a5:=Tryz.isAgg5
 z5:=Tryz.sizeOf5
 v5:=Tryz.zeroValue5
 t9:=Tryz.underlying9
 a9:=Tryz.isAgg9
 z9:=Tryz.sizeOf9
 v9:=Tryz.zeroValue9 }
theorem Fp (s:ByteArray) (c:Int) (w:World):Calls Tryz.prog 200 #[.string s,.int .u8 c] w fun e w'=>e=.returned (.int .i64 (Lib.indexByte s.data.toList c.toNat.toUInt8))∧w'=w:=Any.strings_IndexByte Ygx s c w
def Yii:Go.Shelf.Ren:=⟨fun|119=>291|137=>200|152=>263|217=>249|224=>292|225=>293|266=>282|n=>n,fun|0=>0|3=>3|4=>4|5=>5|9=>9|21=>21|46=>167|n=>n,fun  | n=>n⟩
theorem Ygs:Go.Proofs.Lays.n152 Tryz.prog Yii:={
 mixed:=by kernel_rfl
 f119:=Tryz.func291.trans (congrArg some (by kernel_rfl))
 f137:=Tryz.func200.trans (congrArg some (by kernel_rfl))
 f152:=Tryz.func263.trans (congrArg some (by kernel_rfl))
 f217:=Tryz.func249.trans (congrArg some (by kernel_rfl))
 f224:=Tryz.func292.trans (congrArg some (by kernel_rfl))
 f225:=Tryz.func293.trans (congrArg some (by kernel_rfl))
 f266:=Tryz.func282.trans (congrArg some (by kernel_rfl))
 t0:=Tryz.underlying0
 a0:=Tryz.isAgg0
 z0:=Tryz.sizeOf0
 v0:=Tryz.zeroValue0
 t3:=Tryz.underlying3
 a3:=Tryz.isAgg3
 z3:=Tryz.sizeOf3
 v3:=Tryz.zeroValue3
 t4:=Tryz.underlying4
 a4:=Tryz.isAgg4
 z4:=Tryz.sizeOf4
 v4:=Tryz.zeroValue4
 t5:=Tryz.underlying5
 a5:=Tryz.isAgg5
 z5:=Tryz.sizeOf5
 v5:=Tryz.zeroValue5
 t9:=Tryz.underlying9
 a9:=Tryz.isAgg9
 z9:=Tryz.sizeOf9
 v9:=Tryz.zeroValue9
 t21:=Tryz.underlying21
 a21:=Tryz.isAgg21
 z21:=Tryz.sizeOf21
 v21:=Tryz.zeroValue21
 t46:=Tryz.underlying167
 a46:=Tryz.isAgg167
 z46:=Tryz.sizeOf167
 v46:=Tryz.zeroValue167 }
theorem Ab (s:ByteArray) (r:Int) (w:World) (h0:0≤r) (h1:r < 128):Calls Tryz.prog 263 #[.string s,.int .i32 r] w fun e w'=>e=.returned (.int .i64 (Lib.indexByte s.data.toList r.toNat.toUInt8))∧w'=w:=Any.strings_IndexRune_ascii Ygs s r w h0 h1
def Ydh:Go.Shelf.Ren:=⟨fun|119=>291|137=>200|152=>263|153=>231|217=>249|224=>292|225=>293|226=>264|227=>265|228=>266|266=>282|n=>n,fun|0=>0|3=>3|4=>4|5=>5|9=>9|21=>21|46=>167|116=>247|117=>248|124=>275|n=>n,fun  | n=>n⟩
theorem Yha:Go.Proofs.Lays.n153 Tryz.prog Ydh:={
 mixed:=by kernel_rfl
 f119:=Tryz.func291.trans (congrArg some (by kernel_rfl))
 f137:=Tryz.func200.trans (congrArg some (by kernel_rfl))
 f152:=Tryz.func263.trans (congrArg some (by kernel_rfl))
 f153:=Tryz.func231.trans (congrArg some (by kernel_rfl))
 f217:=Tryz.func249.trans (congrArg some (by kernel_rfl))
 f224:=Tryz.func292.trans (congrArg some (by kernel_rfl))
 f225:=Tryz.func293.trans (congrArg some (by kernel_rfl))
 f226:=Tryz.func264.trans (congrArg some (by kernel_rfl))
 f227:=Tryz.func265.trans (congrArg some (by kernel_rfl))
 f228:=Tryz.func266.trans (congrArg some (by kernel_rfl))
 f266:=Tryz.func282.trans (congrArg some (by kernel_rfl))
 t0:=Tryz.underlying0
 a0:=Tryz.isAgg0
 z0:=Tryz.sizeOf0
 v0:=Tryz.zeroValue0
 t3:=Tryz.underlying3
 a3:=Tryz.isAgg3
 z3:=Tryz.sizeOf3
 v3:=Tryz.zeroValue3
 t4:=Tryz.underlying4
 a4:=Tryz.isAgg4
 z4:=Tryz.sizeOf4
 v4:=Tryz.zeroValue4
 t5:=Tryz.underlying5
 a5:=Tryz.isAgg5
 z5:=Tryz.sizeOf5
 v5:=Tryz.zeroValue5
 t9:=Tryz.underlying9
 a9:=Tryz.isAgg9
 z9:=Tryz.sizeOf9
 v9:=Tryz.zeroValue9
 t21:=Tryz.underlying21
 a21:=Tryz.isAgg21
 z21:=Tryz.sizeOf21
 v21:=Tryz.zeroValue21
 t46:=Tryz.underlying167
 a46:=Tryz.isAgg167
 z46:=Tryz.sizeOf167
 v46:=Tryz.zeroValue167
 t116:=Tryz.underlying247
 a116:=Tryz.isAgg247
 z116:=Tryz.sizeOf247
 t117:=Tryz.underlying248
 a117:=Tryz.isAgg248
 z117:=Tryz.sizeOf248
 v117:=Tryz.zeroValue248
 t124:=Tryz.underlying275
 a124:=Tryz.isAgg275
 z124:=Tryz.sizeOf275
 v124:=Tryz.zeroValue275 }
theorem Yi0:(Tryz.prog.info? (Ydh.t 116)).map (fun i=>(i.zero,i.size))=some (some (.agg (Array.replicate 256 (.bool false))),256):=by kernel_rfl
theorem Qz (s chars:ByteArray) (w:World) (h2:2≤chars.size) (h8:8 < s.size) (hs:s.size < 4294967281) (hcs:chars.size < 4294967281) (hascii:∀ (j:Nat) b,chars.data.toList[j]? = some b→b.toNat < 128) :
  Calls Tryz.prog 231 #[.string s,.string chars] w fun e w'=>e=.returned (.int .i64 (Lib.indexAny s.data.toList chars.data.toList))∧Below w.heap.size w w':=
 (Any.strings_IndexAny_long Yha (zero_of_info Yi0).1 (zero_of_info Yi0).2 s chars w h2 h8 hs hcs hascii).mono fun _ _ ⟨he,hw⟩=>⟨he,by rw [hw];exact ((Below.refl _ _).alloc (Nat.le_refl _) _).alloc (by simp) _⟩
def Yhy:Go.Shelf.Ren:=⟨fun|166=>61|240=>139|276=>203|n=>n,fun|0=>0|3=>3|4=>4|5=>5|9=>9|20=>20|37=>100|70=>99|72=>102|75=>105|80=>110|164=>220|n=>n,fun  | n=>n⟩
theorem Ykn:Go.Proofs.Lays.n166 Tryz.prog Yhy:={
 mixed:=by kernel_rfl
 f166:=Tryz.func61.trans (congrArg some (by kernel_rfl))
 f240:=Tryz.func139.trans (congrArg some (by kernel_rfl))
 f276:=Tryz.func203.trans (congrArg some (by kernel_rfl))
 t0:=Tryz.underlying0
 a0:=Tryz.isAgg0
 z0:=Tryz.sizeOf0
 v0:=Tryz.zeroValue0
 t3:=Tryz.underlying3
 a3:=Tryz.isAgg3
 z3:=Tryz.sizeOf3
 v3:=Tryz.zeroValue3
 t4:=Tryz.underlying4
 a4:=Tryz.isAgg4
 z4:=Tryz.sizeOf4
 v4:=Tryz.zeroValue4
 t9:=Tryz.underlying9
 a9:=Tryz.isAgg9
 z9:=Tryz.sizeOf9
 v9:=Tryz.zeroValue9
 t20:=Tryz.underlying20
 a20:=Tryz.isAgg20
 z20:=Tryz.sizeOf20
 v20:=Tryz.zeroValue20
 t37:=Tryz.underlying100
 a37:=Tryz.isAgg100
 z37:=Tryz.sizeOf100
 v37:=Tryz.zeroValue100
 t70:=Tryz.underlying99
 a70:=Tryz.isAgg99
 z70:=Tryz.sizeOf99
 v70:=Tryz.zeroValue99
 t72:=Tryz.underlying102
 a72:=Tryz.isAgg102
 z72:=Tryz.sizeOf102
 v72:=Tryz.zeroValue102
 t75:=Tryz.underlying105
 a75:=Tryz.isAgg105
 z75:=Tryz.sizeOf105
 v75:=Tryz.zeroValue105
 t164:=Tryz.underlying220
 a164:=Tryz.isAgg220
 z164:=Tryz.sizeOf220
 v164:=Tryz.zeroValue220 }
theorem Yfy:Builder.Extra Tryz.prog Yhy:={
 sizeBuilder:=by kernel_rfl
 liesBuilder:=by kernel_rfl
 t5:=Tryz.underlying5
 a5:=Tryz.isAgg5
 z5:=Tryz.sizeOf5
 v5:=Tryz.zeroValue5
 infoByte:=by kernel_rfl
 cellsByte:=by kernel_rfl
 sizeByte:=by kernel_rfl
 neB5:=by decide }
theorem Bu (B b:Nat) (bs:List Value) (s:ByteArray) (w:World) (h:Lib.IsBuilderF 102 5 B b bs w) (hlen:bs.length+s.size≤140737488355328) (hBw:B≤w.heap.size) :
  Calls Tryz.prog 61 #[.pointer (some ⟨b,0,none⟩),.string s] w fun e w'=>e=.returned (.tuple #[.int .i64 s.size,.nilIface])∧(Lib.BuilderAtF 102 5 B b (.pointer (some ⟨b,0,none⟩)) (bs++Lib.strCells s) w'∧Below B w w'∧Lib.OthersKept 5 (some b) w w'):=
 Any.Builder_WriteString_k Ykn Yfy B b bs s w h hlen hBw
def Yhl:Go.Shelf.Ren:=⟨fun|167=>59|240=>139|276=>203|n=>n,fun|0=>0|4=>4|5=>5|9=>9|20=>20|37=>100|70=>99|72=>102|75=>105|80=>110|164=>220|n=>n,fun  | n=>n⟩
theorem Yj2:Go.Proofs.Lays.n167 Tryz.prog Yhl:={
 mixed:=by kernel_rfl
 f167:=Tryz.func59.trans (congrArg some (by kernel_rfl))
 f240:=Tryz.func139.trans (congrArg some (by kernel_rfl))
 f276:=Tryz.func203.trans (congrArg some (by kernel_rfl))
 t0:=Tryz.underlying0
 a0:=Tryz.isAgg0
 z0:=Tryz.sizeOf0
 v0:=Tryz.zeroValue0
 t4:=Tryz.underlying4
 a4:=Tryz.isAgg4
 z4:=Tryz.sizeOf4
 v4:=Tryz.zeroValue4
 t5:=Tryz.underlying5
 a5:=Tryz.isAgg5
 z5:=Tryz.sizeOf5
 v5:=Tryz.zeroValue5
 t9:=Tryz.underlying9
 a9:=Tryz.isAgg9
 z9:=Tryz.sizeOf9
 v9:=Tryz.zeroValue9
 t20:=Tryz.underlying20
 a20:=Tryz.isAgg20
 z20:=Tryz.sizeOf20
 v20:=Tryz.zeroValue20
 t37:=Tryz.underlying100
 a37:=Tryz.isAgg100
 z37:=Tryz.sizeOf100
 v37:=Tryz.zeroValue100
 t70:=Tryz.underlying99
 a70:=Tryz.isAgg99
 z70:=Tryz.sizeOf99
 v70:=Tryz.zeroValue99
 t72:=Tryz.underlying102
 a72:=Tryz.isAgg102
 z72:=Tryz.sizeOf102
 v72:=Tryz.zeroValue102
 t75:=Tryz.underlying105
 a75:=Tryz.isAgg105
 z75:=Tryz.sizeOf105
 v75:=Tryz.zeroValue105
 t164:=Tryz.underlying220
 a164:=Tryz.isAgg220
 z164:=Tryz.sizeOf220
 v164:=Tryz.zeroValue220 }
theorem Yh8:Builder.Extra Tryz.prog Yhl:={
 sizeBuilder:=by kernel_rfl
 liesBuilder:=by kernel_rfl
 t5:=Tryz.underlying5
 a5:=Tryz.isAgg5
 z5:=Tryz.sizeOf5
 v5:=Tryz.zeroValue5
 infoByte:=by kernel_rfl
 cellsByte:=by kernel_rfl
 sizeByte:=by kernel_rfl
 neB5:=by decide }
theorem Sa (B b:Nat) (bs:List Value) (c:Int) (w:World) (h:Lib.IsBuilderF 102 5 B b bs w) (hlen:bs.length+1≤140737488355328) (hBw:B≤w.heap.size) :
  Calls Tryz.prog 59 #[.pointer (some ⟨b,0,none⟩),.int .u8 c] w fun e w'=>e=.returned .nilIface∧(Lib.BuilderAtF 102 5 B b (.pointer (some ⟨b,0,none⟩)) (bs++[.int .u8 c]) w'∧Below B w w'∧Lib.OthersKept 5 (some b) w w'):=
 Any.Builder_WriteByte_k Yj2 Yh8 B b bs c w h hlen hBw
def Ya8:Go.Shelf.Ren:=⟨fun|129=>278|171=>299|205=>298|243=>307|245=>241|246=>198|279=>273|280=>274|281=>275|282=>276|283=>244|284=>245|285=>246|286=>247|316=>297|317=>277|318=>279|319=>280|320=>281|337=>300|338=>301|n=>n,fun|0=>0|2=>2|3=>3|4=>4|5=>5|9=>9|20=>20|37=>100|46=>167|51=>243|53=>238|75=>105|80=>110|127=>176|143=>284|145=>286|167=>254|168=>257|171=>237|173=>241|210=>278|212=>262|213=>263|232=>287|233=>288|n=>n,fun|15=>2|16=>3|17=>0|18=>5|19=>6|n=>n⟩
theorem Yem:Go.Proofs.Lays.n245 Tryz.prog Ya8:={
 mixed:=by kernel_rfl
 f129:=Tryz.func278.trans (congrArg some (by kernel_rfl))
 f171:=Tryz.func299.trans (congrArg some (by kernel_rfl))
 f205:=Tryz.func298.trans (congrArg some (by kernel_rfl))
 f243:=Tryz.func307.trans (congrArg some (by kernel_rfl))
 f245:=Tryz.func241.trans (congrArg some (by kernel_rfl))
 f246:=Tryz.func198.trans (congrArg some (by kernel_rfl))
 f279:=Tryz.func273.trans (congrArg some (by kernel_rfl))
 f280:=Tryz.func274.trans (congrArg some (by kernel_rfl))
 f281:=Tryz.func275.trans (congrArg some (by kernel_rfl))
 f282:=Tryz.func276.trans (congrArg some (by kernel_rfl))
 f283:=Tryz.func244.trans (congrArg some (by kernel_rfl))
 f284:=Tryz.func245.trans (congrArg some (by kernel_rfl))
 f285:=Tryz.func246.trans (congrArg some (by kernel_rfl))
 f286:=Tryz.func247.trans (congrArg some (by kernel_rfl))
 f316:=Tryz.func297.trans (congrArg some (by kernel_rfl))
 f317:=Tryz.func277.trans (congrArg some (by kernel_rfl))
 f318:=Tryz.func279.trans (congrArg some (by kernel_rfl))
 f319:=Tryz.func280.trans (congrArg some (by kernel_rfl))
 f320:=Tryz.func281.trans (congrArg some (by kernel_rfl))
 f337:=Tryz.func300.trans (congrArg some (by kernel_rfl))
 f338:=Tryz.func301.trans (congrArg some (by kernel_rfl))
 t0:=Tryz.underlying0
 a0:=Tryz.isAgg0
 z0:=Tryz.sizeOf0
 v0:=Tryz.zeroValue0
 t2:=Tryz.underlying2
 a2:=Tryz.isAgg2
 z2:=Tryz.sizeOf2
 v2:=Tryz.zeroValue2
 t3:=Tryz.underlying3
 a3:=Tryz.isAgg3
 z3:=Tryz.sizeOf3
 v3:=Tryz.zeroValue3
 t4:=Tryz.underlying4
 a4:=Tryz.isAgg4
 z4:=Tryz.sizeOf4
 v4:=Tryz.zeroValue4
 t5:=Tryz.underlying5
 a5:=Tryz.isAgg5
 z5:=Tryz.sizeOf5
 v5:=Tryz.zeroValue5
 t9:=Tryz.underlying9
 a9:=Tryz.isAgg9
 z9:=Tryz.sizeOf9
 v9:=Tryz.zeroValue9
 t20:=Tryz.underlying20
 a20:=Tryz.isAgg20
 z20:=Tryz.sizeOf20
 v20:=Tryz.zeroValue20
 t37:=Tryz.underlying100
 a37:=Tryz.isAgg100
 z37:=Tryz.sizeOf100
 v37:=Tryz.zeroValue100
 t46:=Tryz.underlying167
 a46:=Tryz.isAgg167
 z46:=Tryz.sizeOf167
 v46:=Tryz.zeroValue167
 t51:=Tryz.underlying243
 a51:=Tryz.isAgg243
 z51:=Tryz.sizeOf243
 v51:=Tryz.zeroValue243
 t53:=Tryz.underlying238
 a53:=Tryz.isAgg238
 z53:=Tryz.sizeOf238
 v53:=Tryz.zeroValue238
 t75:=Tryz.underlying105
 a75:=Tryz.isAgg105
 z75:=Tryz.sizeOf105
 v75:=Tryz.zeroValue105
 t127:=Tryz.underlying176
 a127:=Tryz.isAgg176
 z127:=Tryz.sizeOf176
 v127:=Tryz.zeroValue176
 t143:=Tryz.underlying284
 a143:=Tryz.isAgg284
 z143:=Tryz.sizeOf284
 v143:=Tryz.zeroValue284
 t145:=Tryz.underlying286
 a145:=Tryz.isAgg286
 z145:=Tryz.sizeOf286
 v145:=Tryz.zeroValue286
 t167:=Tryz.underlying254
 a167:=Tryz.isAgg254
 z167:=Tryz.sizeOf254
 v167:=Tryz.zeroValue254
 t168:=Tryz.underlying257
 a168:=Tryz.isAgg257
 z168:=Tryz.sizeOf257
 v168:=Tryz.zeroValue257
 t171:=Tryz.underlying237
 a171:=Tryz.isAgg237
 z171:=Tryz.sizeOf237
 v171:=Tryz.zeroValue237
 t173:=Tryz.underlying241
 a173:=Tryz.isAgg241
 z173:=Tryz.sizeOf241
 v173:=Tryz.zeroValue241
 t210:=Tryz.underlying278
 a210:=Tryz.isAgg278
 z210:=Tryz.sizeOf278
 v210:=Tryz.zeroValue278
 t212:=Tryz.underlying262
 a212:=Tryz.isAgg262
 z212:=Tryz.sizeOf262
 v212:=Tryz.zeroValue262
 t213:=Tryz.underlying263
 a213:=Tryz.isAgg263
 z213:=Tryz.sizeOf263
 t232:=Tryz.underlying287
 a232:=Tryz.isAgg287
 z232:=Tryz.sizeOf287
 v232:=Tryz.zeroValue287
 t233:=Tryz.underlying288
 a233:=Tryz.isAgg288
 z233:=Tryz.sizeOf288
 v233:=Tryz.zeroValue288
 g15:=by kernel_rfl
 g16:=by kernel_rfl
 g17:=by kernel_rfl
 g18:=by kernel_rfl
 g19:=by kernel_rfl }
theorem Yfz:Go.Proofs.LaysM.n245 Tryz.prog Ya8:={ Yem with
 t80:=Tryz.underlying110
 a80:=Tryz.isAgg110
 z80:=Tryz.sizeOf110
 v80:=Tryz.zeroValue110
 i0:=by kernel_rfl
 i2:=by kernel_rfl
 i3:=by kernel_rfl
 i4:=by kernel_rfl
 i5:=by kernel_rfl
 i9:=by kernel_rfl
 i20:=by kernel_rfl
 i37:=by kernel_rfl
 i46:=by kernel_rfl
 i51:=by kernel_rfl
 i53:=by kernel_rfl
 i75:=by kernel_rfl
 i80:=by kernel_rfl
 i127:=by kernel_rfl
 i143:=by kernel_rfl
 i145:=by kernel_rfl
 i167:=by kernel_rfl
 i168:=by kernel_rfl
 i171:=by kernel_rfl
 i173:=by kernel_rfl
 i210:=by kernel_rfl
 i212:=by kernel_rfl
 i232:=by kernel_rfl
 i233:=by kernel_rfl
 m15:=by kernel_rfl
 m16:=by kernel_rfl
 m17:=by kernel_rfl
 m18:=by kernel_rfl
 m19:=by kernel_rfl }
theorem Yla:Go.Proofs.LaysC.n245 Tryz.prog Ya8:={ Yfz with
 c0:=by kernel_rfl
 c2:=by kernel_rfl
 c3:=by kernel_rfl
 c4:=by kernel_rfl
 c5:=by kernel_rfl
 c9:=by kernel_rfl
 c20:=by kernel_rfl
 c37:=by kernel_rfl
 c46:=by kernel_rfl
 c51:=by kernel_rfl
 c53:=by kernel_rfl
 c75:=by kernel_rfl
 c80:=by kernel_rfl
 c127:=by kernel_rfl
 c143:=by kernel_rfl
 c145:=by kernel_rfl
 c167:=by kernel_rfl
 c168:=by kernel_rfl
 c171:=by kernel_rfl
 c173:=by kernel_rfl
 c210:=by kernel_rfl
 c212:=by kernel_rfl
 c213:=by kernel_rfl
 c232:=by kernel_rfl
 c233:=by kernel_rfl }
theorem Mk (fn s:ByteArray) (base bits:Int) (ev:Value) (w:World) (hlim:s.size≤281474976710656) (hv:w.cell? ⟨2,0,none⟩=some ev) (hev:ev=.nilIface∨∃ te pe,ev=.iface te pe) :
  Calls Tryz.prog 241 #[.string fn,.string s,.int .i64 base,.int .i64 bits,.iface 254 (.int .i64 2)] w fun e w'=>∃ N,e=.returned (.iface 257 (.pointer (some ⟨N,0,none⟩)))∧Below w.heap.size w w':=
 (Any.strconv_toError_syntax Yla fn s base bits ev w hlim hv hev).mono fun _ _ ⟨N,he,_,_,hb⟩=>⟨N,he,hb⟩
end Go.Proofs.YtpkmbhnikilihaaGreatDoor
