/- The landed variable. -/
import Derived.Test.YtkmloefbkgcbkaaGreatDoorSr19
set_option maxRecDepth 100000
set_option maxHeartbeats 8000000
namespace Go.Proofs.YtkmloefbkgcbkaaGreatDoor
open Go.RowKit
abbrev Rdr (α:Type):=List Tok→Except Int (α × List Tok)
def Suf {α:Type} (p:Rdr α):Prop:=∀ ts a r,p ts=.ok (a,r)→r <:+ ts
def Str {α:Type} (p:Rdr α):Prop:=∀ ts a r,p ts=.ok (a,r)→Sfx r ts
theorem Str.suf {α:Type} {p:Rdr α} (h:Str p):Suf p:=fun ts a r e=>(h ts a r e).1
def Ym {α β:Type} (p:Rdr α) (q:α→Rdr β):Rdr β:=fun ts=>match p ts with | .error x=>.error x | .ok (a,r)=>q a r
def ifR {α:Type} (k:Int) (s:ByteArray) (p q:Rdr α):Rdr α:=fun ts=>if atB k s ts=true then p ts.tail else q ts
theorem Ypk {α:Type} {k:Int} {s:ByteArray} {p q:Rdr α} (hp:Suf p) (hq:Suf q):Suf (ifR k s p q):=fun ts a r h=>by
 unfold ifR at h
 split at h
 · rename_i ha;exact (hp _ _ _ h).trans (Zn ha).1
 · exact hq _ _ _ h
def nmR {α:Type} (p:ByteArray→Rdr α) (q:Rdr α):Rdr α:=fun ts=>match Zg ts with|none=>q ts|some (n,r)=>p n r
theorem Xu (t:Tok) (ts:List Tok):Zg (t :: ts)=if t.1=2 then some (t.2,ts) else none:=rfl
theorem Ykz {α:Type} (a:α):Suf (fun ts=>.ok (a,ts)):=fun ts b r h=>by
 obtain ⟨_,e2⟩:=Prod.mk.inj (Except.ok.inj h);subst e2;exact List.suffix_refl _
theorem Bp:∀ f:Nat,
   (∀ fx d ts f',2*ts.length+1≤f→f≤f'→F3 f' fx d ts=F3 f fx d ts) ∧
   (∀ fx d acc ts f',2*ts.length+2≤f→f≤f'→Xd f' fx d acc ts=Xd f fx d acc ts) ∧
   (∀ fx d acc ts f',2*ts.length+2≤f→f≤f'→Vn f' fx d acc ts=Vn f fx d acc ts) ∧
   (∀ fx d ts f',2*ts.length+1≤f→f≤f'→C9 f' fx d ts=C9 f fx d ts):=by
 intro f
 induction f with
 | zero=>exact ⟨fun _ _ _ _ h _=>by omega,fun _ _ _ _ _ h _=>by omega,fun _ _ _ _ _ h _=>by omega,fun _ _ _ _ h _=>by omega⟩
 | succ f ih =>
   obtain ⟨iv,il,im,ib⟩:=ih;refine ⟨fun fx d ts f' h hf=>?_,fun fx d acc ts f' h hf=>?_,fun fx d acc ts f' h hf=>?_,fun fx d ts f' h hf=>?_⟩
   · obtain ⟨g,rfl⟩:∃ g,f'=g+1:=⟨f' - 1,by omega⟩
     rw [F3,F3]
     by_cases h1:atB 1 oB ts=true
     · have:=Ie h1
       rw [if_pos h1,if_pos h1,il _ _ _ _ g (by omega) (by omega)]
     · rw [if_neg h1,if_neg h1]
       by_cases h2:atB 1 omB ts=true
       · have:=Ie h2
         rw [if_pos h2,if_pos h2,im _ _ _ _ g (by omega) (by omega)]
       · rw [if_neg h2,if_neg h2]
   · obtain ⟨g,rfl⟩:∃ g,f'=g+1:=⟨f' - 1,by omega⟩
     rw [Xd,Xd,iv _ _ _ g (by omega) (by omega)]
     split
     · rfl
     · cases hv:F3 f fx d ts with
       | error x=>rfl
       | ok q =>
         obtain ⟨v,r⟩:=q;have:=(F6 f).1 _ _ _ _ _ hv;exact il _ _ _ _ g (by omega) (by omega)
   · obtain ⟨g,rfl⟩:∃ g,f'=g+1:=⟨f' - 1,by omega⟩
     rw [Vn,Vn,ib _ _ _ g (by omega) (by omega)]
     split
     · rfl
     · cases hv:C9 f fx d ts with
       | error x=>rfl
       | ok q =>
         obtain ⟨⟨nm,v⟩,r⟩:=q;have:=(F6 f).2.2.2 _ _ _ _ _ hv;exact im _ _ _ _ g (by omega) (by omega)
   · obtain ⟨g,rfl⟩:∃ g,f'=g+1:=⟨f' - 1,by omega⟩
     rw [C9,C9]
     cases hn:Zg ts with
     | none=>rfl
     | some q =>
       obtain ⟨nm,r⟩:=q;have:=W3 hn;simp only
       by_cases h1:atB 1 Xj r=true
       · have:=Ie h1
         rw [if_pos h1,if_pos h1,iv _ _ _ g (by omega) (by omega)]
       · rw [if_neg h1,if_neg h1]
def Gi (fx:Bool) (d:Nat) (acc:VL) (ts:List Tok):Except Int (VL × List Tok):=Xd (2*ts.length+2) fx d acc ts
def Mz (fx:Bool) (d:Nat) (acc:VM) (ts:List Tok):Except Int (VM × List Tok):=Vn (2*ts.length+2) fx d acc ts
def Ga {α:Type} (x:Int):Rdr α:=fun _=>.error x
def Gk {α:Type} (a:α):Rdr α:=fun ts=>.ok (a,ts)
def Ypf:Rdr VT:=ifR 1 J5 (nmR (fun s=>Gk (.mk 8 0 s .nil .nil)) (Ga 2)) Zzj
theorem Wn (fx:Bool) (d:Nat):Im fx d=ifR 1 oB (if d=16 then Ga 4 else Ym (Gi fx (d+1) .nil) fun l=>Gk (.mk 6 0 ⟨#[]⟩ l .nil)) (ifR 1 omB (if d=16 then Ga 4 else Ym (Mz fx (d+1) .nil) fun m=>Gk (.mk 7 0 ⟨#[]⟩ .nil m)) (if fx=true then Zzj else Ypf)):=by
 funext ts
 unfold Im ifR;rw [F3]
 by_cases h1:atB 1 oB ts=true
 · have:=Ie h1
   rw [if_pos h1,if_pos h1]
   by_cases hd:d=16
   · rw [if_pos hd,if_pos hd];rfl
   · rw [if_neg hd,if_neg hd]
     unfold Ym Gi;rw [show 2*ts.tail.length+2=2*ts.length by omega]
     cases Xd (2*ts.length) fx (d+1) .nil ts.tail<;>rfl
 · rw [if_neg h1,if_neg h1]
   by_cases h2:atB 1 omB ts=true
   · have:=Ie h2
     rw [if_pos h2,if_pos h2]
     by_cases hd:d=16
     · rw [if_pos hd,if_pos hd];rfl
     · rw [if_neg hd,if_neg hd]
       unfold Ym Mz;rw [show 2*ts.tail.length+2=2*ts.length by omega]
       cases Vn (2*ts.length) fx (d+1) .nil ts.tail<;>rfl
   · rw [if_neg h2,if_neg h2]
     cases fx with
     | true=>rfl
     | false =>
       rw [if_neg (by simp : ¬ (false=true))];unfold Ypf ifR nmR
       cases h3:atB 1 J5 ts with
       | true =>
         simp only [Bool.not_false,Bool.and_self,if_true]
         cases Zg ts.tail<;>rfl
       | false=>rfl
theorem Dy (fx:Bool) (d:Nat) (acc:VL):Gi fx d acc=ifR 1 cB (Gk acc) (Ym (Im fx d) fun v=>Gi fx d (acc.snoc v)):=by
 funext ts
 unfold Gi ifR;rw [Xd]
 split
 · rfl
 · unfold Ym Im
   cases hv:F3 (2*ts.length+1) fx d ts with
   | error x=>rfl
   | ok q =>
     obtain ⟨v,r⟩:=q;have:=(F6 _).1 _ _ _ _ _ hv;exact (Bp _).2.1 _ _ _ _ _ (Nat.le_refl _) (by omega)
theorem Sg (fx:Bool) (d:Nat) (acc:VM):Mz fx d acc=ifR 1 cmB (Gk acc) (Ym (Co fx d) fun p=>Mz fx d (acc.snoc p.1 p.2)):=by
 funext ts
 unfold Mz ifR;rw [Vn]
 split
 · rfl
 · unfold Ym Co
   cases hv:C9 (2*ts.length+1) fx d ts with
   | error x=>rfl
   | ok q =>
     obtain ⟨⟨nm,v⟩,r⟩:=q;have:=(F6 _).2.2.2 _ _ _ _ _ hv;exact (Bp _).2.2.1 _ _ _ _ _ (Nat.le_refl _) (by omega)
theorem Yfg (fx:Bool) (d:Nat):Co fx d=nmR (fun nm=>ifR 1 Xj (Ym (Im fx d) fun v=>Gk (nm,v)) (Ga 2)) (Ga 2):=by
 funext ts
 unfold Co nmR ifR;rw [C9]
 cases hn:Zg ts with
 | none=>rfl
 | some q =>
   obtain ⟨nm,r⟩:=q;have:=W3 hn;simp only
   by_cases h1:atB 1 Xj r=true
   · have:=Ie h1
     rw [if_pos h1,if_pos h1];unfold Ym Im;rw [(Bp (2*r.tail.length+1)).1 _ _ _ (2*ts.length) (Nat.le_refl _) (by omega)]
     cases F3 (2*r.tail.length+1) fx d r.tail<;>rfl
   · rw [if_neg h1,if_neg h1];rfl
theorem Yom {α:Type} (a:α):Suf (Gk a):=Ykz a
theorem Ynb (fx:Bool) (d:Nat):Str (Im fx d):=fun _ _ _ h=>Qw h
theorem Qs (fx:Bool) (d:Nat):Str (Co fx d):=fun _ _ _ h=>B8 h
theorem Tv {α ρ:Type} {one:Rdr α} {add:ρ→α→ρ} {e:ByteArray} (H:Str one):∀ (f f':Nat) (acc:ρ) (ts:List Tok),ts.length < f→ts.length < f'→I7 one add e f acc ts=I7 one add e f' acc ts
 | 0,_,_,_,h,_=>absurd h (Nat.not_lt_zero _)
 | _+1,0,_,_,_,h=>absurd h (Nat.not_lt_zero _)
 | f + 1,f'+1,acc,ts,h,h'=>by
   rw [I7,I7]
   cases ho:one ts with
   | error x=>rfl
   | ok p =>
     obtain ⟨a,r⟩:=p;simp only
     split
     · rfl
     · have:=(H _ _ _ ho).2
       exact Tv H f f' _ _ (by omega) (by omega)
def N7 {α ρ:Type} (one:Rdr α) (add:ρ→α→ρ) (e:ByteArray) (acc:ρ):Rdr ρ:=fun ts=>I7 one add e (ts.length+1) acc ts
theorem Ybt {α ρ:Type} {one:Rdr α} {add:ρ→α→ρ} {e:ByteArray} (H:Str one) (acc:ρ):N7 one add e acc=Ym one fun a=>ifR 1 e (Gk (add acc a)) (N7 one add e (add acc a)):=by
 funext ts
 unfold N7 Ym ifR;rw [I7]
 cases ho:one ts with
 | error x=>rfl
 | ok p =>
   obtain ⟨a,r⟩:=p;simp only;have:=(H _ _ _ ho).2;rw [Tv H ts.length (r.length+1) _ _ this (by omega)]
   rfl
theorem Rm (fx:Bool) (d:Nat):U8 fx d=ifR 1 opB (N7 (Co fx d) Zzi cpB .nil) (Gk .nil):=by funext ts;rfl
theorem Yj1 (fx:Bool) (d:Nat):Suf (U8 fx d):=fun _ _ _ h=>Fp h
theorem Pw {fx:Bool} {d:Nat} : ∀ (f f':Nat) (acc:List Wg) (ts:List Tok),ts.length < f→ts.length < f'→Gb fx d f acc ts=Gb fx d f' acc ts
 | 0,_,_,_,h,_=>absurd h (Nat.not_lt_zero _)
 | _+1,0,_,_,_,h=>absurd h (Nat.not_lt_zero _)
 | f + 1,f'+1,acc,ts,h,h'=>by
   rw [Gb,Gb]
   split
   · rename_i ha
     have h1:=(Zn ha).2
     cases hn:Zg ts.tail with
     | none=>rfl
     | some q =>
       obtain ⟨n,r⟩:=q;have h2:=(Zt hn).2;simp only
       cases hg:U8 fx d r with
       | error x=>rfl
       | ok q =>
         obtain ⟨m,r2⟩:=q;have h3:=(Fp hg).length_le;exact Pw f f' _ _ (by omega) (by omega)
   · rfl
def Zqh (fx:Bool) (d:Nat) (acc:List Wg):Rdr (List Wg):=fun ts=>Gb fx d (ts.length+1) acc ts
theorem S8 (fx:Bool) (d:Nat) (acc:List Wg):Zqh fx d acc=ifR 1 Zzg (nmR (fun n=>Ym (U8 fx d) fun m=>Zqh fx d (acc++[(n,m)])) (Ga 2)) (Gk acc):=by
 funext ts
 unfold Zqh ifR nmR Ym;rw [Gb]
 split
 · rename_i ha
   have h1:=(Zn ha).2
   cases hn:Zg ts.tail with
   | none=>rfl
   | some q =>
     obtain ⟨n,r⟩:=q;have h2:=(Zt hn).2;simp only
     cases hg:U8 fx d r with
     | error x=>rfl
     | ok q =>
       obtain ⟨m,r2⟩:=q;have h3:=(Fp hg).length_le;exact Pw _ _ _ _ (by omega) (by omega)
 · rfl
theorem Yfv (fx:Bool) (d:Nat):Dh fx d=Zqh fx d []:=rfl
def Dc (n:ByteArray) (l m:Nat):Rdr (ByteArray × Nat × Nat):=ifR 1 bB (Gk (n,l,m ||| 1)) (Gk (n,l,m))
theorem Ew (n:ByteArray) (l m:Nat) (ts:List Tok):Dc n l m ts=.ok (Ui n l m ts):=by
 unfold Dc ifR Ui
 split
 · rfl
 · rfl
theorem Cf:Zj 0=ifR 1 oB (Ga 4) (nmR (fun n=>Dc n 0 0) (Ga 2)):=by
 funext ts
 unfold ifR nmR
 by_cases h:atB 1 oB ts=true
 · rw [Es h,if_pos h];rfl
 · have h':atB 1 oB ts=false:=by simpa using h
   rw [Vy h',if_neg h]
   cases Zg ts with
   | none=>rfl
   | some q=>obtain ⟨n,r⟩:=q;exact (Ew n 0 0 r).symm
theorem Dn (left:Nat):Zj (left+1)=ifR 1 oB (Ym (Zj left) fun t=>ifR 1 cB (Dc t.1 (t.2.1+1) (2*t.2.2)) (Ga 2)) (nmR (fun n=>Dc n 0 0) (Ga 2)):=by
 funext ts
 unfold ifR nmR Ym
 by_cases h:atB 1 oB ts=true
 · rw [Uy h,if_pos h]
   cases Zj left ts.tail with
   | error x=>rfl
   | ok q =>
     obtain ⟨⟨n,l,m⟩,r⟩:=q;simp only
     split
     · exact (Ew _ _ _ _).symm
     · rfl
 · have h':atB 1 oB ts=false:=by simpa using h
   rw [Vy h',if_neg h]
   cases Zg ts with
   | none=>rfl
   | some q=>obtain ⟨n,r⟩:=q;exact (Ew n 0 0 r).symm
theorem Rz (left:Nat):Str (Zj left):=fun _ _ _ h=>B9 _ _ _ _ h
def Yq5 (d:Nat) (n:ByteArray) (t:ByteArray × Nat × Nat):Rdr Cb:=ifR 1 eqB (Ym (Im true d) fun v=>Gk ⟨n,t.1,t.2.1,t.2.2,true,v⟩) (Gk ⟨n,t.1,t.2.1,t.2.2,false,Qf⟩)
theorem Yeb (d:Nat):Yi2 d=ifR 1 J5 (nmR (fun n=>ifR 1 Xj (Ym (Zj 4) fun t=>Yq5 d n t) (Ga 2)) (Ga 2)) (Ga 2):=by
 funext ts
 unfold Yi2 ifR nmR Ym Yq5 ifR Ym
 split
 · cases Zg ts.tail with
   | none=>rfl
   | some q =>
     obtain ⟨n,r⟩:=q;simp only
     split
     · cases Zj 4 r.tail with
       | error x=>rfl
       | ok q =>
         obtain ⟨t,r2⟩:=q;simp only
         split
         · cases Im true d r2.tail<;>rfl
         · rfl
     · rfl
 · rfl
structure Um where
 name:ByteArray
 params:List Cb
 tn:ByteArray
 tl:Nat
 tm:Nat
 dirs:List Wg
structure Ih where
 kind:Int
 name:ByteArray
 faces:List ByteArray
 fields:List Um
 parts:List ByteArray
 params:List Cb
structure Ub where
 defs:List Ih
 query:ByteArray
 mutation:ByteArray
def Zd (s:ByteArray):TrS:=.cons (.one (.string s)) .nil
def Ze (x:Um):TrS:=.cons (.one (.string x.name)) (.cons (.row (Z5 Zk x.params)) (.cons (.one (.string x.tn)) (.cons (.one (.int .i64 (x.tl:Int))) (.cons (.one (.int .i64 (x.tm:Int))) (.cons (.row (Z5 Dd x.dirs)) .nil)))))
def Z9 (x:Ih):TrS:=.cons (.one (.int .i64 x.kind)) (.cons (.one (.string x.name)) (.cons (.row (Z5 Zd x.faces)) (.cons (.row (Z5 Ze x.fields)) (.cons (.row (Z5 Zd x.parts)) (.cons (.row (Z5 Zk x.params)) .nil)))))
def Xw (x:Ub):TrS:=.cons (.row (Z5 Z9 x.defs)) (.cons (.one (.string x.query)) (.cons (.one (.string x.mutation)) .nil))
def Xg:ByteArray:=⟨#[115,99,104,101,109,97]⟩
def Gl:ByteArray:=⟨#[105,109,112,108,101,109,101,110,116,115]⟩
def Yi1:ByteArray:=⟨#[38]⟩
def Yk2:ByteArray:=⟨#[124]⟩
def Yha:ByteArray:=⟨#[116,121,112,101]⟩
def Yi0:ByteArray:=⟨#[105,110,116,101,114,102,97,99,101]⟩
def Zv6:ByteArray:=⟨#[117,110,105,111,110]⟩
def Zkv:ByteArray:=⟨#[101,110,117,109]⟩
def Zki:ByteArray:=⟨#[105,110,112,117,116]⟩
def Zvm:ByteArray:=⟨#[116,114,117,101]⟩
def Pl:ByteArray:=⟨#[102,97,108,115,101]⟩
def Yai:ByteArray:=⟨#[110,117,108,108]⟩
def U1 (ts:List Tok):List Tok:=if Zyh 5 ts=true then ts.tail else ts
def W4 (d:Nat) (ts:List Tok):Except Int (Cb × List Tok):=V0 d (U1 ts)
def Jj (d:Nat) (ts:List Tok):Except Int (List Cb × List Tok):=
 if atB 1 opB ts=true then I7 (W4 d) V8 cpB (ts.tail.length+1) [] ts.tail else .ok ([],ts)
def fdR (d:Nat) (ts:List Tok):Except Int (Um × List Tok):=
 match Zg (U1 ts) with
 | none=>.error 2
 | some (n,r) =>
   match Jj d r with
   | .error x=>.error x
   | .ok (ps,r2) =>
     if atB 1 Xj r2=true then
      match Zj 4 r2.tail with
      | .error x=>.error x
      | .ok (t,r3) =>
        match Dh true d r3 with
        | .error x=>.error x
        | .ok (ds,r4)=>.ok (⟨n,ps,t.1,t.2.1,t.2.2,ds⟩,r4)
     else .error 2
def Nc (s:ByteArray):Bool:=!Zju s.data.toList
def enR (ts:List Tok):Except Int (ByteArray × List Tok):=
 match Zg (U1 ts) with
 | none=>.error 2
 | some (n,r)=>if Nc n=true then .error 2 else .ok (n,r)
def Vk (s:ByteArray):Nat→List ByteArray→List Tok→Except Int (List ByteArray × List Tok)
 | 0,_,_=>.error 2
 | f+1,acc,ts =>
   if atB 1 s ts=true then
    match Zg ts.tail with
    | none=>.error 2
    | some (n,r)=>Vk s f (acc++[n]) r
   else .ok (acc,ts)
def Xl (s:ByteArray) (ts:List Tok):Except Int (List ByteArray × List Tok):=
 match Zg (Xs 1 s ts) with
 | none=>.error 2
 | some (n,r)=>Vk s (r.length+1) [n] r
def Yo (w:ByteArray):Int:=
 if w.toList == Yha.toList then 1 else if w.toList == Yi0.toList then 2 else if w.toList == Zv6.toList then 3 else if w.toList == Zkv.toList then 4 else if w.toList == Zki.toList then 5 else 0
def Zw (ts:List Tok):Except Int (List ByteArray × List Tok):=if atB 2 Gl ts=true then Xl Yi1 ts.tail else .ok ([],ts)
def Uk (d:Nat) (k:Int) (n:ByteArray) (ts:List Tok):Except Int (Ih × List Tok):=
 if k=1∨k=2 then
  match Zw ts with
  | .error x=>.error x
  | .ok (fs,r) =>
    if atB 1 omB r=true then
     match I7 (fdR d) V8 cmB (r.tail.length+1) [] r.tail with
     | .error x=>.error x
     | .ok (l,r2)=>.ok (⟨k,n,fs,l,[],[]⟩,r2)
    else .error 2
 else if k=3 then
  if atB 1 eqB ts=true then
    match Xl Yk2 ts.tail with
    | .error x=>.error x
    | .ok (l,r)=>.ok (⟨k,n,[],[],l,[]⟩,r)
  else .error 2
 else if k=4 then
  if atB 1 omB ts=true then
    match I7 enR V8 cmB (ts.tail.length+1) [] ts.tail with
    | .error x=>.error x
    | .ok (l,r)=>.ok (⟨k,n,[],[],l,[]⟩,r)
  else .error 2
 else
  if atB 1 omB ts=true then
    match I7 (W4 d) V8 cmB (ts.tail.length+1) [] ts.tail with
    | .error x=>.error x
    | .ok (l,r)=>.ok (⟨k,n,[],[],[],l⟩,r)
  else .error 2
def Ut (d:Nat) (ts:List Tok):Except Int (Ih × List Tok):=
 match Zg ts with
 | none=>.error 2
 | some (w,r) =>
   if Yo w=0 then .error 2 else
    match Zg r with
    | none=>.error 2
    | some (n,r2)=>Uk d (Yo w) n r2
def Ql (ts:List Tok):Except Int (ByteArray × List Tok):=
 if atB 2 Yau ts=true then
  if atB 1 Xj ts.tail=true then
   match Zg ts.tail.tail with
   | none=>.error 2
   | some (m,r)=>.ok (m,r)
  else .error 2
 else .ok (eB,ts)
def Yp (ts:List Tok):Except Int ((ByteArray × ByteArray) × List Tok):=
 if atB 1 omB ts=true then
  if atB 2 Gh ts.tail=true then
   if atB 1 Xj ts.tail.tail=true then
    match Zg ts.tail.tail.tail with
    | none=>.error 2
    | some (q,r) =>
      match Ql r with
      | .error x=>.error x
      | .ok (m,r2)=>if atB 1 cmB r2=true then .ok ((q,m),r2.tail) else .error 2
   else .error 2
  else .error 2
 else .error 2
def Fw:ByteArray:=⟨#[77,117,116,97,116,105,111,110]⟩
def Ye:ByteArray:=⟨#[81,117,101,114,121]⟩
def Ge (l:List Ih):ByteArray:=if l.any (fun d=>d.name.toList == Fw.toList)=true then Fw else eB
def Nb:Nat→Bool→Ub→List Tok→Except Int Ub
 | 0,_,_,_=>.error 2
 | f+1,told,D,ts =>
   if told=false∧atB 2 Xg (U1 ts)=true then
    match Yp (U1 ts).tail with
    | .error x=>.error x
    | .ok (p,r)=>if r.isEmpty=true then .ok ⟨D.defs,p.1,p.2⟩ else Nb f true ⟨D.defs,p.1,p.2⟩ r
   else
    match Ut 0 (U1 ts) with
    | .error x=>.error x
    | .ok (d,r)=>if r.isEmpty=true then (if told=true then .ok ⟨D.defs++[d],D.query,D.mutation⟩ else .ok ⟨D.defs++[d],Ye,Ge (D.defs++[d])⟩) else Nb f told ⟨D.defs++[d],D.query,D.mutation⟩ r
def Sm (ts:List Tok):Except Int Ub:=Nb (ts.length+1) false ⟨[],eB,eB⟩ ts
def Ld (ts:List Tok):Except Int (Ub × List Tok):=match Sm ts with | .ok D=>.ok (D,[]) | .error x=>.error x
theorem Vd (ts:List Tok):U1 ts <:+ ts:=by
 unfold U1
 split
 · exact List.tail_suffix ts
 · exact List.suffix_refl ts
theorem Li {d:Nat} {ts r:List Tok} {x:Cb} (h:W4 d ts=.ok (x,r)):Sfx r ts:=(Yde h).le (Vd ts)
theorem Zz1 {ts r:List Tok} {x:ByteArray} (h:enR ts=.ok (x,r)):Sfx r ts:=by
 unfold enR at h
 cases hn:Zg (U1 ts) with
 | none=>rw [hn] at h;cases h
 | some q =>
   obtain ⟨n,r1⟩:=q;rw [hn] at h;simp only at h
   split at h
   · cases h
   · have e:=(Prod.mk.inj (Except.ok.inj h)).2
     subst e;exact (Zt hn).le (Vd ts)
theorem Zz9 {d:Nat} {ts r:List Tok} {l:List Cb} (h:Jj d ts=.ok (l,r)):r <:+ ts:=by
 unfold Jj at h
 split at h
 · rename_i hb
   exact ((F0 (fun _ _ _ h=>Li h) _ _ _ _ _ h).trans (Zn hb)).1
 · have e:=(Prod.mk.inj (Except.ok.inj h)).2
   subst e;exact List.suffix_refl _
theorem Nu {d:Nat} {ts r:List Tok} {x:Um} (h:fdR d ts=.ok (x,r)):Sfx r ts:=by
 unfold fdR at h
 cases hn:Zg (U1 ts) with
 | none=>rw [hn] at h;cases h
 | some q =>
   obtain ⟨n,r1⟩:=q;rw [hn] at h;simp only at h
   cases hp:Jj d r1 with
   | error x=>rw [hp] at h;cases h
   | ok q =>
     obtain ⟨ps,r2⟩:=q;rw [hp] at h;simp only at h
     split at h
     · rename_i hc
       cases ht:Zj 4 r2.tail with
       | error x=>rw [ht] at h;cases h
       | ok q =>
         obtain ⟨t,r3⟩:=q;rw [ht] at h;simp only at h
         cases hd:Dh true d r3 with
         | error x=>rw [hd] at h;cases h
         | ok q =>
           obtain ⟨ds,r4⟩:=q;rw [hd] at h;have e:=(Prod.mk.inj (Except.ok.inj h)).2;subst e;exact Sfx.of (Zxb hd) ((((B9 _ _ _ _ ht).trans (Zn hc)).le (Zz9 hp)).trans ((Zt hn).le (Vd ts)))
     · cases h
theorem Qp (k:Int) (s:ByteArray) (ts:List Tok):Xs k s ts <:+ ts:=by
 unfold Xs
 split
 · exact List.tail_suffix ts
 · exact List.suffix_refl ts
theorem Pd {s:ByteArray} : ∀ (f:Nat) (acc:List ByteArray) (ts:List Tok) (l:List ByteArray) (r:List Tok),Vk s f acc ts=.ok (l,r)→r <:+ ts
 | 0,_,_,_,_,h=>by cases h
 | f + 1,acc,ts,l,r,h=>by
   rw [Vk] at h
   split at h
   · rename_i hb
     cases hn:Zg ts.tail with
     | none=>rw [hn] at h;cases h
     | some q =>
       obtain ⟨n,r1⟩:=q;rw [hn] at h;exact (Pd f _ _ _ _ h).trans ((Zt hn).trans (Zn hb)).1
   · have e:=(Prod.mk.inj (Except.ok.inj h)).2
     subst e;exact List.suffix_refl _
theorem Ee {s:ByteArray} {ts r:List Tok} {l:List ByteArray} (h:Xl s ts=.ok (l,r)):Sfx r ts:=by
 unfold Xl at h
 cases hn:Zg (Xs 1 s ts) with
 | none=>rw [hn] at h;cases h
 | some q =>
   obtain ⟨n,r1⟩:=q;rw [hn] at h;exact Sfx.of (Pd _ _ _ _ _ h) ((Zt hn).le (Qp 1 s ts))
theorem Yhw:(Tryz.prog.info? 96).map (fun i=>(i.zero,i.size,i.bytes))=some (some (.agg #[.string ⟨#[]⟩,.string ⟨#[]⟩,.int .i64 0,.int .i64 0,.bool false,.int .i64 0,.int .i64 0,.string ⟨#[]⟩,.slice none 0 0,.slice none 0 0]),10,136):=by kernel_rfl
theorem Pi (en:ByteArray) (one:List Tok→Except Int ((Cb) × List Tok)) (hS:∀ ts a r,one ts=.ok (a,r)→Sfx r ts) (r d:Nat) (ts:List Tok) (w:World)
  (HC:∀ tq wx,Yn tq→tq.length≤ts.length→Rd wx r tq d→KRd r wx→NoX r wx→Calls Tryz.prog 56 #[.pointer (some ⟨r,0,none⟩)] wx (Ca r d wx (N9 Zk) (one tq)))
  (hG:Yn ts) (hR:Rd w r ts d) (hK:KRd r w) (hX:NoX r w):Calls Tryz.prog 55 #[.pointer (some ⟨r,0,none⟩),.string en,.func (.func 56) #[] #[]] w (Ca r d w (Yfq (Z5 Zk)) (I7 one V8 en (ts.length+1) [] ts)):=by
 refine cQE (fun Q hQ=>?_);obtain ⟨ti0,hi,hz0,hz1,hz2⟩:=info_parts Yhw;obtain ⟨RES,hRES⟩:∃ RES,I7 one V8 en (ts.length+1) [] ts=RES:=⟨_,rfl⟩;rw [hRES] at hQ;have HQ:=Hd hQ;have HRES:=Hd hRES;have HCC:=Hd HC;have HSS:=Hd hS;have hr:=hR.lt;have hlen:ts.length≤200000:=by obtain ⟨_,_,_,_,h,_⟩:=hR;exact h
 have B0:=Hd (And.intro hR (And.intro hK (And.intro hG hX)));clear hQ hRES HC hS hG hR hK hX
 go_enter Tryz.func55,Tryz.ntmps55
 go_wp2_with fail
 go_loopg [7] (ts.length+1) (fun g out wx=>∃ (acc:List Cb) (tq:List Tok),tq.length+1≤g∧tq.length≤ts.length∧((Z5 Zk) acc).len+tq.length≤200000∧Aside (RTr 96 10 w.heap.size wx out ((Z5 Zk) acc)∧Z0 r w wx∧Rd wx r tq d∧KRd r wx∧Yn tq∧NoX r wx∧I7 one V8 en g acc tq=RES))
 case atStart=>exact ⟨[],ts,Nat.le_refl _,Nat.le_refl _,by rw [show ((Z5 Zk) []).len=0 from rfl];omega,Za ⟨(RTr.start _ _ _ _),Z0.refl _ _,B0.out.1,B0.out.2.1,B0.out.2.2.1,B0.out.2.2.2,HRES.out⟩⟩
 case round =>
  obtain ⟨acc,tq,hq,hql,hal,HA⟩:=hrel;obtain ⟨hrt,hmx,hrx,hkx,hgx,hxx,hex⟩:=HA.out;obtain ⟨xs,P,hown,hvals,hP⟩:=hrt;obtain ⟨Ao,co,rfl⟩:=Xi hown;have KX:=Hd (And.intro hmx (And.intro hrx (And.intro hkx hxx)));have GX:=Hd hgx;have EX:=Hd hex;have HRT:=Hd (And.intro hown (And.intro hvals hP));clear HA hmx hrx hkx hgx hxx hex hown hvals hP
  cases gk with
  | zero=>omega
  | succ g =>
    go_wp2_with fail
    refine (HCC.out tq _ GX.out hql KX.out.2.1 KX.out.2.2.1 KX.out.2.2.2).mono ?_;intro e w2 h
    cases hv:one tq with
    | error x =>
      rw [hv] at h;obtain ⟨rfl,m⟩:=Ji h;exact ⟨rfl,HQ.out _ _ (per (by rw [← EX.out,I7,hv]) (KX.out.1.trans m))⟩
    | ok p =>
      obtain ⟨a,tq2⟩:=p;rw [hv] at h;obtain ⟨⟨v,rfl,hl⟩,r2,m2⟩:=Uv h;obtain ⟨s0,s1,i2,i3,b4,i5,i6,s7,A8,n8,k8,A9,n9,k9,rfl,hts⟩:=Zxu hl;have hsf:=HSS.out _ _ _ hv;have hsl:=hsf.2;have G2:=Hd (GX.out.sub hsf.1);have M2:=Hd m2;have R2:=Hd r2;have T2:=Hd hts;have hs2:=m2.size;have hs0:=KX.out.1.size;have O2:=Hd (Yk HRT.out.1 m2 hr);have HV:=Hd hv;clear h hv hl hts r2 m2 hsf
      go_wp2_with (at_builtin;refine wpList_append_lies _ rfl _ _ 33 rfl w.heap.size 96 ti0 (.agg #[.string ⟨#[]⟩,.string ⟨#[]⟩,.int .i64 0,.int .i64 0,.bool false,.int .i64 0,.int .i64 0,.string ⟨#[]⟩,.slice none 0 0,.slice none 0 0]) 10 136 Tryz.underlying33 hi hz0 hz1 hz2 rfl (by decide) _ ((Z5 Zk) acc).len xs rfl (Yw O2.out (blw _ _)) _ 1 1 [.string s0,.string s1,.int .i64 i2,.int .i64 i3,.bool b4,.int .i64 i5,.int .i64 i6,.string s7,.slice A8 n8 k8,.slice A9 n9 k9] rfl rfl (fun j u hj=>World.news_of_block (heap_alloc_new _ _) j u hj) (by intro y hy;simp at hy;rcases hy with rfl|rfl|rfl|rfl|rfl|rfl|rfl|rfl|rfl|rfl<;>rfl) (by decide) (by unfold maxLen;omega) (by omega) (by simp;omega) _ rfl ?_;intro gg cap2 w4 hown4 hgrow hat hlt4;have HG4:=Hd hgrow;have HO4:=Hd hown4;have HT4:=Hd hat;clear hgrow hown4 hat)
      have hgk:=J0 HG4.out (r:=r) (fun b hb=>by have:=(HRT.out.1.lt b hb).1;omega);have R4:=Hd (hgk.1 _ _ (R2.out.below (blw _ _)));have D4:=Hd (hgk.2 ((KX.out.2.2.1.moved M2.out).moved (Z0.of_below (blw _ _))))
      have M4:=Hd (show Z0 r w w4 from by
        have m:=(KX.out.1.trans M2.out).trans (Z0.of_below (blw _ (.cells #[.string s0,.string s1,.int .i64 i2,.int .i64 i3,.bool b4,.int .i64 i5,.int .i64 i6,.string s7,.slice A8 n8 k8,.slice A9 n9 k9] 96)));exact ⟨HG4.out.os.trans m.os,HG4.out.tape.trans m.tape,HG4.out.output.trans m.output,Nat.le_trans m.size HG4.out.size,fun k hk hn=>(HG4.out.block k (Nat.lt_of_lt_of_le hk m.size) (fun e=>by have:=(HRT.out.1.lt k e.symm).1;omega)).trans (m.block k hk hn)⟩)
      have X4:=Hd (show NoX r w4 from trivial);have T4:=Hd (RTr.app hr (by omega) HRT.out.1 HRT.out.2.1 HRT.out.2.2 M2.out (TS.keep (fun _ hk=>⟨⟨hk.1,hk.2⟩,rfl⟩) _ _ T2.out) HO4.out HG4.out HT4.out);clear hgk;go_wp2_with fail
      refine (Yg r tq2 d 1 en _ R4.out).mono ?_;intro e w5 h5;have hE:=EX.out;rw [I7,HV.out] at hE;simp only at hE
      cases hb:atB 1 en tq2 with
      | true =>
        rw [hb] at h5 hE;obtain ⟨rfl,r5,m5⟩:=h5;rw [Jq hb] at r5;simp only [if_true] at hE;have T5:=Hd ((T4.out.moved m5 hr).fin (by rw [TrL.snoc_len];omega));have R5:=Hd r5;have M5:=Hd (M4.out.trans m5);have E5:=Hd hE;clear r5 m5 hE hb;go_wp2_with fail
        exact HQ.out _ _ (Yy E5.out.symm (show TP _ _ (.row ((Z5 Zk) (V8 acc a))) _ by rw [show (Z5 Zk) (V8 acc a)=((Z5 Zk) acc).snoc (Zk a) from Zx _ _ _];exact T5.out) R5.out M5.out)
      | false =>
        rw [hb] at h5 hE;obtain ⟨rfl,r5,m5⟩:=h5;rw [Uh hb] at r5;simp only [Bool.false_eq_true,if_false] at hE;have T5:=Hd (T4.out.moved m5 hr);have R5:=Hd r5;have M5:=Hd (M4.out.trans m5);have X5:=Hd (X4.out.moved m5);have D5:=Hd (D4.out.moved m5);have E5:=Hd hE;clear r5 m5 hE hb;go_wp2_with fail
        go_roundg g
        case measure=>omega
        case rel=>exact ⟨V8 acc a,tq2,by omega,by omega,by rw [show (Z5 Zk) (V8 acc a)=((Z5 Zk) acc).snoc (Zk a) from Zx _ _ _,TrL.snoc_len];omega,Za ⟨by rw [show (Z5 Zk) (V8 acc a)=((Z5 Zk) acc).snoc (Zk a) from Zx _ _ _];exact T5.out,M5.out,R5.out,D5.out,G2.out,X5.out,E5.out⟩⟩
theorem Ygx {w:World} {P:Nat→Prop} {a:Um} {v:Value} (h:N9 Ze w P a v):∃ (s0:ByteArray) (A1:Option Addr) (n1 c1:Nat) (s2:ByteArray) (i3 i4:Int) (A5:Option Addr) (n5 c5:Nat),v=.agg #[.string s0,.slice A1 n1 c1,.string s2,.int .i64 i3,.int .i64 i4,.slice A5 n5 c5]∧TS w P (Ze a) [.string s0,.slice A1 n1 c1,.string s2,.int .i64 i3,.int .i64 i4,.slice A5 n5 c5]:=by
 obtain ⟨cs,rfl,h⟩:=h;have h0:=h;unfold Ze at h0;simp only [TS,TP] at h0;obtain ⟨c0,_,rfl,⟨rfl,_⟩,c1,_,rfl,⟨A1,k1,rfl,_,_⟩,c2,_,rfl,⟨rfl,_⟩,c3,_,rfl,⟨rfl,_⟩,c4,_,rfl,⟨rfl,_⟩,c5,_,rfl,⟨A5,k5,rfl,_,_⟩,rfl⟩:=h0;exact ⟨_,_,_,_,_,_,_,_,_,_,rfl,h⟩
theorem Yfx:(Tryz.prog.info? 73).map (fun i=>(i.zero,i.size,i.bytes))=some (some (.agg #[.string ⟨#[]⟩,.slice none 0 0,.string ⟨#[]⟩,.int .i64 0,.int .i64 0,.slice none 0 0]),6,96):=by kernel_rfl
theorem Zvd (en:ByteArray) (one:List Tok→Except Int ((Um) × List Tok)) (hS:∀ ts a r,one ts=.ok (a,r)→Sfx r ts) (r d:Nat) (ts:List Tok) (w:World)
  (HC:∀ tq wx,Yn tq→tq.length≤ts.length→Rd wx r tq d→KRd r wx→NoX r wx→Calls Tryz.prog 52 #[.pointer (some ⟨r,0,none⟩)] wx (Ca r d wx (N9 Ze) (one tq)))
  (hG:Yn ts) (hR:Rd w r ts d) (hK:KRd r w) (hX:NoX r w):Calls Tryz.prog 51 #[.pointer (some ⟨r,0,none⟩),.string en,.func (.func 52) #[] #[]] w (Ca r d w (Yfq (Z5 Ze)) (I7 one V8 en (ts.length+1) [] ts)):=by
 refine cQE (fun Q hQ=>?_);obtain ⟨ti0,hi,hz0,hz1,hz2⟩:=info_parts Yfx;obtain ⟨RES,hRES⟩:∃ RES,I7 one V8 en (ts.length+1) [] ts=RES:=⟨_,rfl⟩;rw [hRES] at hQ;have HQ:=Hd hQ;have HRES:=Hd hRES;have HCC:=Hd HC;have HSS:=Hd hS;have hr:=hR.lt;have hlen:ts.length≤200000:=by obtain ⟨_,_,_,_,h,_⟩:=hR;exact h
 have B0:=Hd (And.intro hR (And.intro hK (And.intro hG hX)));clear hQ hRES HC hS hG hR hK hX
 go_enter Tryz.func51,Tryz.ntmps51
 go_wp2_with fail
 go_loopg [7] (ts.length+1) (fun g out wx=>∃ (acc:List Um) (tq:List Tok),tq.length+1≤g∧tq.length≤ts.length∧((Z5 Ze) acc).len+tq.length≤200000∧Aside (RTr 73 6 w.heap.size wx out ((Z5 Ze) acc)∧Z0 r w wx∧Rd wx r tq d∧KRd r wx∧Yn tq∧NoX r wx∧I7 one V8 en g acc tq=RES))
 case atStart=>exact ⟨[],ts,Nat.le_refl _,Nat.le_refl _,by rw [show ((Z5 Ze) []).len=0 from rfl];omega,Za ⟨(RTr.start _ _ _ _),Z0.refl _ _,B0.out.1,B0.out.2.1,B0.out.2.2.1,B0.out.2.2.2,HRES.out⟩⟩
 case round =>
  obtain ⟨acc,tq,hq,hql,hal,HA⟩:=hrel;obtain ⟨hrt,hmx,hrx,hkx,hgx,hxx,hex⟩:=HA.out;obtain ⟨xs,P,hown,hvals,hP⟩:=hrt;obtain ⟨Ao,co,rfl⟩:=Xi hown;have KX:=Hd (And.intro hmx (And.intro hrx (And.intro hkx hxx)));have GX:=Hd hgx;have EX:=Hd hex;have HRT:=Hd (And.intro hown (And.intro hvals hP));clear HA hmx hrx hkx hgx hxx hex hown hvals hP
  cases gk with
  | zero=>omega
  | succ g =>
    go_wp2_with fail
    refine (HCC.out tq _ GX.out hql KX.out.2.1 KX.out.2.2.1 KX.out.2.2.2).mono ?_;intro e w2 h
    cases hv:one tq with
    | error x =>
      rw [hv] at h;obtain ⟨rfl,m⟩:=Ji h;exact ⟨rfl,HQ.out _ _ (per (by rw [← EX.out,I7,hv]) (KX.out.1.trans m))⟩
    | ok p =>
      obtain ⟨a,tq2⟩:=p;rw [hv] at h;obtain ⟨⟨v,rfl,hl⟩,r2,m2⟩:=Uv h;obtain ⟨s0,A1,n1,k1,s2,i3,i4,A5,n5,k5,rfl,hts⟩:=Ygx hl;have hsf:=HSS.out _ _ _ hv;have hsl:=hsf.2;have G2:=Hd (GX.out.sub hsf.1);have M2:=Hd m2;have R2:=Hd r2;have T2:=Hd hts;have hs2:=m2.size;have hs0:=KX.out.1.size;have O2:=Hd (Yk HRT.out.1 m2 hr);have HV:=Hd hv;clear h hv hl hts r2 m2 hsf
      go_wp2_with (at_builtin;refine wpList_append_lies _ rfl _ _ 32 rfl w.heap.size 73 ti0 (.agg #[.string ⟨#[]⟩,.slice none 0 0,.string ⟨#[]⟩,.int .i64 0,.int .i64 0,.slice none 0 0]) 6 96 Tryz.underlying32 hi hz0 hz1 hz2 rfl (by decide) _ ((Z5 Ze) acc).len xs rfl (Yw O2.out (blw _ _)) _ 1 1 [.string s0,.slice A1 n1 k1,.string s2,.int .i64 i3,.int .i64 i4,.slice A5 n5 k5] rfl rfl (fun j u hj=>World.news_of_block (heap_alloc_new _ _) j u hj) (by intro y hy;simp at hy;rcases hy with rfl|rfl|rfl|rfl|rfl|rfl<;>rfl) (by decide) (by unfold maxLen;omega) (by omega) (by simp;omega) _ rfl ?_;intro gg cap2 w4 hown4 hgrow hat hlt4;have HG4:=Hd hgrow;have HO4:=Hd hown4;have HT4:=Hd hat;clear hgrow hown4 hat)
      have hgk:=J0 HG4.out (r:=r) (fun b hb=>by have:=(HRT.out.1.lt b hb).1;omega);have R4:=Hd (hgk.1 _ _ (R2.out.below (blw _ _)));have D4:=Hd (hgk.2 ((KX.out.2.2.1.moved M2.out).moved (Z0.of_below (blw _ _))))
      have M4:=Hd (show Z0 r w w4 from by
        have m:=(KX.out.1.trans M2.out).trans (Z0.of_below (blw _ (.cells #[.string s0,.slice A1 n1 k1,.string s2,.int .i64 i3,.int .i64 i4,.slice A5 n5 k5] 73)));exact ⟨HG4.out.os.trans m.os,HG4.out.tape.trans m.tape,HG4.out.output.trans m.output,Nat.le_trans m.size HG4.out.size,fun k hk hn=>(HG4.out.block k (Nat.lt_of_lt_of_le hk m.size) (fun e=>by have:=(HRT.out.1.lt k e.symm).1;omega)).trans (m.block k hk hn)⟩)
      have X4:=Hd (show NoX r w4 from trivial);have T4:=Hd (RTr.app hr (by omega) HRT.out.1 HRT.out.2.1 HRT.out.2.2 M2.out (TS.keep (fun _ hk=>⟨⟨hk.1,hk.2⟩,rfl⟩) _ _ T2.out) HO4.out HG4.out HT4.out);clear hgk;go_wp2_with fail
      refine (Yg r tq2 d 1 en _ R4.out).mono ?_;intro e w5 h5;have hE:=EX.out;rw [I7,HV.out] at hE;simp only at hE
      cases hb:atB 1 en tq2 with
      | true =>
        rw [hb] at h5 hE;obtain ⟨rfl,r5,m5⟩:=h5;rw [Jq hb] at r5;simp only [if_true] at hE;have T5:=Hd ((T4.out.moved m5 hr).fin (by rw [TrL.snoc_len];omega));have R5:=Hd r5;have M5:=Hd (M4.out.trans m5);have E5:=Hd hE;clear r5 m5 hE hb;go_wp2_with fail
        exact HQ.out _ _ (Yy E5.out.symm (show TP _ _ (.row ((Z5 Ze) (V8 acc a))) _ by rw [show (Z5 Ze) (V8 acc a)=((Z5 Ze) acc).snoc (Ze a) from Zx _ _ _];exact T5.out) R5.out M5.out)
      | false =>
        rw [hb] at h5 hE;obtain ⟨rfl,r5,m5⟩:=h5;rw [Uh hb] at r5;simp only [Bool.false_eq_true,if_false] at hE;have T5:=Hd (T4.out.moved m5 hr);have R5:=Hd r5;have M5:=Hd (M4.out.trans m5);have X5:=Hd (X4.out.moved m5);have D5:=Hd (D4.out.moved m5);have E5:=Hd hE;clear r5 m5 hE hb;go_wp2_with fail
        go_roundg g
        case measure=>omega
        case rel=>exact ⟨V8 acc a,tq2,by omega,by omega,by rw [show (Z5 Ze) (V8 acc a)=((Z5 Ze) acc).snoc (Ze a) from Zx _ _ _,TrL.snoc_len];omega,Za ⟨by rw [show (Z5 Ze) (V8 acc a)=((Z5 Ze) acc).snoc (Ze a) from Zx _ _ _];exact T5.out,M5.out,R5.out,D5.out,G2.out,X5.out,E5.out⟩⟩
end Go.Proofs.YtkmloefbkgcbkaaGreatDoor
