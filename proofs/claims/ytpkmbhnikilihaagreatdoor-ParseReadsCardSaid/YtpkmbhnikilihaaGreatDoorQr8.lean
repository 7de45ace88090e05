/- The landed reader of documents, as plain functions of tokens. -/
import Derived.Test.YtpkmbhnikilihaaGreatDoorQr7
set_option maxRecDepth 100000
set_option maxHeartbeats 4000000
namespace Go.Proofs.YtpkmbhnikilihaaGreatDoor
open Go.RowKit
def opB:ByteArray:=⟨#[40]⟩
def cpB:ByteArray:=⟨#[41]⟩
def Zqb:ByteArray:=⟨#[64]⟩
def Yn:ByteArray:=⟨#[46,46,46]⟩
def eqB:ByteArray:=⟨#[61]⟩
def onB:ByteArray:=⟨#[111,110]⟩
def J2:ByteArray:=⟨#[113,117,101,114,121]⟩
def Nz:ByteArray:=⟨#[109,117,116,97,116,105,111,110]⟩
def Cr:ByteArray:=⟨#[102,114,97,103,109,101,110,116]⟩
def eB:ByteArray:=⟨#[]⟩
def Uq (fx:Bool) (d:Nat) (ts:List Tok):Except Int (VT × List Tok):=F3 (2*ts.length+1) fx d ts
def Cy (fx:Bool) (d:Nat) (ts:List Tok):Except Int ((ByteArray × VT) × List Tok):=Cj (2*ts.length+1) fx d ts
def El {α ρ:Type} (one:List Tok→Except Int (α × List Tok)) (add:ρ→α→ρ) (e:ByteArray):Nat→ρ→List Tok→Except Int (ρ × List Tok)
 | 0,_,_=>.error 2
 | f+1,acc,ts =>
   match one ts with
   | .error x=>.error x
   | .ok (a,r)=>if atB 1 e r=true then .ok (add acc a,r.tail) else El one add e f (add acc a) r
def Zq8 (l:VM) (p:ByteArray × VT):VM:=l.snoc p.1 p.2
def Zqu {α:Type} (l:List α) (a:α):List α:=l++[a]
def Ym (fx:Bool) (d:Nat) (ts:List Tok):Except Int (VM × List Tok):=
 if atB 1 opB ts=true then El (Cy fx d) Zq8 cpB (ts.tail.length+1) .nil ts.tail else .ok (.nil,ts)
def Gm (fx:Bool) (d:Nat):Nat→List Lk→List Tok→Except Int (List Lk × List Tok)
 | 0,_,_=>.error 2
 | f+1,acc,ts =>
   if atB 1 Zqb ts=true then
    match Zb ts.tail with
    | none=>.error 2
    | some (n,r) =>
      match Ym fx d r with
      | .error x=>.error x
      | .ok (m,r2)=>Gm fx d f (acc++[(n,m)]) r2
   else .ok (acc,ts)
def Zp (fx:Bool) (d:Nat) (ts:List Tok):Except Int (List Lk × List Tok):=Gm fx d (ts.length+1) [] ts
abbrev Ul:=List Tok→Except Int (Vy × List Tok)
def Yl (S:Ul) (d:Nat) (o:ByteArray) (ts:List Tok):Except Int (Wi × List Tok):=
 match Zp false d ts with
 | .error x=>.error x
 | .ok (ds,r) =>
   match S r with
   | .error x=>.error x
   | .ok (s,r2)=>.ok (.mk 2 eB eB .nil ds o s,r2)
def Xx (S:Ul) (d:Nat) (ts:List Tok):Except Int (Wi × List Tok):=
 if atB 2 onB ts=true then
  match Zb ts.tail with
  | none=>.error 2
  | some (o,r)=>Yl S d o r
 else
  match Zb ts with
  | some (n,r) =>
    match Zp false d r with
    | .error x=>.error x
    | .ok (ds,r2)=>.ok (.mk 1 eB n .nil ds eB .nil,r2)
  | none=>Yl S d eB ts
def Ua (S:Ul) (d:Nat) (al nm:ByteArray) (ts:List Tok):Except Int (Wi × List Tok):=
 match Ym false d ts with
 | .error x=>.error x
 | .ok (g,r) =>
   match Zp false d r with
   | .error x=>.error x
   | .ok (ds,r2) =>
     if atB 1 omB r2=true then
      match S r2 with
      | .error x=>.error x
      | .ok (s,r3)=>.ok (.mk 0 al nm g ds eB s,r3)
     else .ok (.mk 0 al nm g ds eB .nil,r2)
def I5 (S:Ul) (d:Nat) (ts:List Tok):Except Int (Wi × List Tok):=
 match Zb ts with
 | none=>.error 2
 | some (n,r) =>
   if atB 1 Jq r=true then
    match Zb r.tail with
    | none=>.error 2
    | some (n2,r2)=>Ua S d n n2 r2
   else Ua S d eB n r
def Jo (S:Ul) (d:Nat) (ts:List Tok):Except Int (Wi × List Tok):=
 if atB 1 Yn ts=true then Xx S d ts.tail else I5 S d ts
def Zq7 (l:Vy) (x:Wi):Vy:=l.snoc x
mutual
def Ft:Nat→Nat→List Tok→Except Int (Vy × List Tok)
 | 0,_,_=>.error 2
 | f+1,d,ts=>if atB 1 omB ts=true then (if d=16 then .error 4 else El (Zqc f (d+1)) Zq7 cmB (ts.tail.length+1) .nil ts.tail) else .error 2
def Zqc:Nat→Nat→List Tok→Except Int (Wi × List Tok)
 | 0,_,_=>.error 2
 | f+1,d,ts=>Jo (Ft f d) d ts
end
def X8 (d:Nat) (ts:List Tok):Except Int (Vy × List Tok):=Ft (ts.length+1) d ts
def Mj:VT:=.mk 0 0 eB .nil .nil
def Gs (d:Nat) (ts:List Tok):Except Int (Mw × List Tok):=
 if atB 1 X9 ts=true then
  match Zb ts.tail with
  | none=>.error 2
  | some (n,r) =>
    if atB 1 Jq r=true then
     match Zl 4 r.tail with
     | .error x=>.error x
     | .ok (t,r2) =>
       if atB 1 eqB r2=true then
        match Uq true d r2.tail with
        | .error x=>.error x
        | .ok (v,r3)=>.ok (⟨n,t.1,t.2.1,t.2.2,true,v⟩,r3)
       else .ok (⟨n,t.1,t.2.1,t.2.2,false,Mj⟩,r2)
    else .error 2
 else .error 2
def Jj (d:Nat) (ts:List Tok):Except Int (List Mw × List Tok):=
 if atB 1 opB ts=true then El (Gs d) Zqu cpB (ts.tail.length+1) [] ts.tail else .ok ([],ts)
def Jt (kind:Int) (d:Nat) (nm:ByteArray) (ts:List Tok):Except Int (OpT × List Tok):=
 match Jj d ts with
 | .error x=>.error x
 | .ok (vs,r) =>
   match Zp true d r with
   | .error x=>.error x
   | .ok (ds,r2) =>
     match X8 d r2 with
     | .error x=>.error x
     | .ok (s,r3)=>.ok (⟨kind,nm,vs,ds,s⟩,r3)
def opR (kind:Int) (d:Nat) (ts:List Tok):Except Int (OpT × List Tok):=
 match Zb ts with
 | some (n,r)=>Jt kind d n r
 | none=>Jt kind d eB ts
def Ud (d:Nat) (ts:List Tok):Except Int (Ql × List Tok):=
 if atB 2 onB ts=true then .error 2 else
  match Zb ts with
  | none=>.error 2
  | some (n,r) =>
    if atB 2 onB r=true then
     match Zb r.tail with
     | none=>.error 2
     | some (o,r2) =>
       match Zp true d r2 with
       | .error x=>.error x
       | .ok (ds,r3) =>
         match X8 d r3 with
         | .error x=>.error x
         | .ok (s,r4)=>.ok (⟨n,o,ds,s⟩,r4)
    else .error 2
structure Vs where
 ops:List OpT
 frags:List Ql
def Zzg (D:Vs) (ts:List Tok):Except Int (Vs × List Tok):=
 if atB 1 omB ts=true then
  match X8 0 ts with
  | .error x=>.error x
  | .ok (s,r)=>.ok (⟨D.ops++[⟨0,eB,[],[],s⟩],D.frags⟩,r)
 else if atB 2 J2 ts=true then
  match opR 0 0 ts.tail with
  | .error x=>.error x
  | .ok (o,r)=>.ok (⟨D.ops++[o],D.frags⟩,r)
 else if atB 2 Nz ts=true then
  match opR 1 0 ts.tail with
  | .error x=>.error x
  | .ok (o,r)=>.ok (⟨D.ops++[o],D.frags⟩,r)
 else if atB 2 Cr ts=true then
  match Ud 0 ts.tail with
  | .error x=>.error x
  | .ok (o,r)=>.ok (⟨D.ops,D.frags++[o]⟩,r)
 else .error 2
def Mf:Nat→Vs→List Tok→Except Int Vs
 | 0,_,_=>.error 2
 | f+1,D,ts =>
   match Zzg D ts with
   | .error x=>.error x
   | .ok (D',r)=>if r.isEmpty=true then .ok D' else Mf f D' r
def Mc (ts:List Tok):Except Int Vs:=Mf (ts.length+1) ⟨[],[]⟩ ts
def Sfx (r ts:List Tok):Prop:=r <:+ ts∧r.length < ts.length
theorem Sfx.trans {a b c:List Tok} (h:Sfx a b) (h':Sfx b c):Sfx a c:=⟨h.1.trans h'.1,Nat.lt_trans h.2 h'.2⟩
theorem Sfx.le {a b c:List Tok} (h:Sfx a b) (h':b <:+ c):Sfx a c:=⟨h.1.trans h',Nat.lt_of_lt_of_le h.2 h'.length_le⟩
theorem Sfx.of {a b c:List Tok} (h:a <:+ b) (h':Sfx b c):Sfx a c:=⟨h.trans h'.1,Nat.lt_of_le_of_lt h.length_le h'.2⟩
theorem Zf {k:Int} {s:ByteArray} {ts:List Tok} (h:atB k s ts=true):Sfx ts.tail ts:=by
 cases ts with
 | nil=>cases h
 | cons t ts=>exact ⟨⟨[t],rfl⟩,Nat.lt_succ_self _⟩
theorem Zc {ts r:List Tok} {s:ByteArray} (h:Zb ts=some (s,r)):Sfx r ts:=by
 cases ts with
 | nil=>cases h
 | cons t ts =>
   change (if t.1=2 then some (t.2,ts) else none)=some (s,r) at h
   split at h
   · have:=(Prod.mk.inj (Option.some.inj h)).2
     subst this;exact ⟨⟨[t],rfl⟩,Nat.lt_succ_self _⟩
   · cases h
theorem Yki {ts r:List Tok} {v:VT} (h:Zqa ts=.ok (v,r)):Sfx r ts:=by
 cases ts with
 | nil=>cases h
 | cons t ts =>
   unfold Zqa at h
   simp only at h
   cases hs:Zo t with
   | none=>rw [hs] at h;cases h
   | some q =>
     rw [hs] at h
     have e:=(Prod.mk.inj (Except.ok.inj h)).2
     subst e;exact ⟨⟨[t],rfl⟩,Nat.lt_succ_self _⟩
theorem Zk8:∀ f:Nat,
   (∀ fx d ts v r,F3 f fx d ts=.ok (v,r)→Sfx r ts) ∧
   (∀ fx d acc ts l r,Xd f fx d acc ts=.ok (l,r)→Sfx r ts) ∧
   (∀ fx d acc ts l r,Vr f fx d acc ts=.ok (l,r)→Sfx r ts) ∧
   (∀ fx d ts p r,Cj f fx d ts=.ok (p,r)→Sfx r ts):=by
 intro f
 induction f with
 | zero =>
   refine ⟨fun _ _ _ _ _ h=>?_,fun _ _ _ _ _ _ h=>?_,fun _ _ _ _ _ _ h=>?_,fun _ _ _ _ _ h=>?_⟩
   · rw [F3] at h;cases h
   · rw [Xd] at h;cases h
   · rw [Vr] at h;cases h
   · rw [Cj] at h;cases h
 | succ f ih =>
   obtain ⟨iv,il,im,ib⟩:=ih
   refine ⟨fun fx d ts v r h=>?_,fun fx d acc ts l r h=>?_,fun fx d acc ts l r h=>?_,fun fx d ts p r h=>?_⟩
   · rw [F3] at h
     split at h
     · rename_i ha
       have:=Zf ha
       split at h
       · cases h
       · cases hi:Xd f fx (d+1) .nil ts.tail with
         | error e=>rw [hi] at h;cases h
         | ok q =>
           obtain ⟨l,r'⟩:=q
           rw [hi] at h
           have h2:=il _ _ _ _ _ _ hi
           have e:=(Prod.mk.inj (Except.ok.inj h)).2
           subst e;exact h2.trans this
     · split at h
       · rename_i ha
         have:=Zf ha
         split at h
         · cases h
         · cases hi:Vr f fx (d+1) .nil ts.tail with
           | error e=>rw [hi] at h;cases h
           | ok q =>
             obtain ⟨l,r'⟩:=q
             rw [hi] at h
             have h2:=im _ _ _ _ _ _ hi
             have e:=(Prod.mk.inj (Except.ok.inj h)).2
             subst e;exact h2.trans this
       · split at h
         · rename_i ha
           have:=Zf (show atB 1 X9 ts=true by cases fx<;>simp_all)
           cases hn:Zb ts.tail with
           | none=>rw [hn] at h;cases h
           | some q =>
             obtain ⟨s,r'⟩:=q
             rw [hn] at h
             have h2:=Zc hn
             have e:=(Prod.mk.inj (Except.ok.inj h)).2
             subst e;exact h2.trans this
         · exact Yki h
   · rw [Xd] at h
     split at h
     · rename_i ha
       have:=Zf ha
       have e:=(Prod.mk.inj (Except.ok.inj h)).2
       subst e;exact this
     · cases hi:F3 f fx d ts with
       | error e=>rw [hi] at h;cases h
       | ok q =>
         obtain ⟨v,r'⟩:=q
         rw [hi] at h
         exact (il _ _ _ _ _ _ h).trans (iv _ _ _ _ _ hi)
   · rw [Vr] at h
     split at h
     · rename_i ha
       have:=Zf ha
       have e:=(Prod.mk.inj (Except.ok.inj h)).2
       subst e;exact this
     · cases hi:Cj f fx d ts with
       | error e=>rw [hi] at h;cases h
       | ok q =>
         obtain ⟨⟨nm,v⟩,r'⟩:=q
         rw [hi] at h
         exact (im _ _ _ _ _ _ h).trans (ib _ _ _ _ _ hi)
   · rw [Cj] at h
     cases hn:Zb ts with
     | none=>rw [hn] at h;cases h
     | some q =>
       obtain ⟨nm,r'⟩:=q
       rw [hn] at h
       have h0:=Zc hn
       simp only at h
       split at h
       · rename_i ha
         have h1:=Zf ha
         cases hi:F3 f fx d r'.tail with
         | error e=>rw [hi] at h;cases h
         | ok q =>
           obtain ⟨v,r2⟩:=q
           rw [hi] at h
           have h2:=iv _ _ _ _ _ hi
           have e:=(Prod.mk.inj (Except.ok.inj h)).2
           subst e;exact (h2.trans h1).trans h0
       · cases h
theorem Pr {fx:Bool} {d:Nat} {ts r:List Tok} {v:VT} (h:Uq fx d ts=.ok (v,r)):Sfx r ts:=(Zk8 _).1 _ _ _ _ _ h
theorem An {fx:Bool} {d:Nat} {ts r:List Tok} {p:ByteArray × VT} (h:Cy fx d ts=.ok (p,r)):Sfx r ts:=(Zk8 _).2.2.2 _ _ _ _ _ h
theorem At {α ρ:Type} {one:List Tok→Except Int (α × List Tok)} {add:ρ→α→ρ} {e:ByteArray} (H:∀ ts a r,one ts=.ok (a,r)→Sfx r ts):∀ (f:Nat) (acc:ρ) (ts r:List Tok) (l:ρ),El one add e f acc ts=.ok (l,r)→Sfx r ts
 | 0,_,_,_,_,h=>by cases h
 | f + 1,acc,ts,r,l,h=>by
   rw [El] at h
   cases ho:one ts with
   | error x=>rw [ho] at h;cases h
   | ok p =>
     obtain ⟨a,r1⟩:=p
     rw [ho] at h
     simp only at h
     split at h
     · rename_i ha
       have e:=(Prod.mk.inj (Except.ok.inj h)).2
       subst e
       exact (Zf ha).trans (H _ _ _ ho)
     · exact (At H f _ _ _ _ h).trans (H _ _ _ ho)
theorem Jk {fx:Bool} {d:Nat} {ts r:List Tok} {l:VM} (h:Ym fx d ts=.ok (l,r)):r <:+ ts:=by
 unfold Ym at h
 split at h
 · rename_i ha
   exact ((At (fun _ _ _ h=>An h) _ _ _ _ _ h).trans (Zf ha)).1
 · have e:=(Prod.mk.inj (Except.ok.inj h)).2
   subst e;exact List.suffix_refl _
theorem Bj {fx:Bool} {d:Nat} : ∀ (f:Nat) (acc:List Lk) (ts r:List Tok) (l:List Lk),Gm fx d f acc ts=.ok (l,r)→r <:+ ts
 | 0,_,_,_,_,h=>by cases h
 | f + 1,acc,ts,r,l,h=>by
   rw [Gm] at h
   split at h
   · rename_i ha
     cases hn:Zb ts.tail with
     | none=>rw [hn] at h;cases h
     | some q =>
       obtain ⟨n,r1⟩:=q
       rw [hn] at h
       simp only at h
       cases hg:Ym fx d r1 with
       | error x=>rw [hg] at h;cases h
       | ok q =>
         obtain ⟨m,r2⟩:=q
         rw [hg] at h
         exact (Bj f _ _ _ _ h).trans ((Jk hg).trans ((Zc hn).1.trans (Zf ha).1))
   · have e:=(Prod.mk.inj (Except.ok.inj h)).2
     subst e;exact List.suffix_refl _
theorem Yj {fx:Bool} {d:Nat} {ts r:List Tok} {l:List Lk} (h:Zp fx d ts=.ok (l,r)):r <:+ ts:=Bj _ _ _ _ _ h
theorem Zqj:∀ (left:Nat) (ts r:List Tok) (t:ByteArray × Nat × Nat),Zl left ts=.ok (t,r)→Sfx r ts:=by
 have hb:∀ n l m ts,(Uh n l m ts).2 <:+ ts:=by
   intro n l m ts
   unfold Uh
   split
   · rename_i ha;exact (Zf ha).1
   · exact List.suffix_refl _
 have hname:∀ left ts r t,atB 1 oB ts=false→Zl left ts=.ok (t,r)→Sfx r ts:=by
   intro left ts r t ho h
   rw [Vx ho] at h
   cases hn:Zb ts with
   | none=>rw [hn] at h;cases h
   | some q =>
     obtain ⟨n,r1⟩:=q
     rw [hn] at h
     have e:=Except.ok.inj h
     have e2:(Uh n 0 0 r1).2=r:=by rw [e]
     subst e2
     exact Sfx.of (hb _ _ _ _) (Zc hn)
 intro left
 induction left with
 | zero =>
   intro ts r t h
   cases ho:atB 1 oB ts with
   | false=>exact hname _ _ _ _ ho h
   | true=>rw [Eq ho] at h;cases h
 | succ left ih =>
   intro ts r t h
   cases ho:atB 1 oB ts with
   | false=>exact hname _ _ _ _ ho h
   | true =>
     rw [Uw ho] at h
     cases ht:Zl left ts.tail with
     | error x=>rw [ht] at h;cases h
     | ok q =>
       obtain ⟨⟨n,l,m⟩,r1⟩:=q
       rw [ht] at h
       simp only at h
       split at h
       · rename_i hc
         have e:=Except.ok.inj h
         have e2:(Uh n (l+1) (2*m) r1.tail).2=r:=by rw [e]
         subst e2
         exact Sfx.of (hb _ _ _ _) (((Zf hc).trans (ih _ _ _ ht)).trans (Zf ho))
       · cases h
theorem Pe {S:Ul} (H:∀ ts l r,S ts=.ok (l,r)→Sfx r ts) {d:Nat} {o:ByteArray} {ts r:List Tok} {x:Wi} (h:Yl S d o ts=.ok (x,r)):Sfx r ts:=by
 unfold Yl at h
 cases hd:Zp false d ts with
 | error x=>rw [hd] at h;cases h
 | ok q =>
   obtain ⟨ds,r1⟩:=q
   rw [hd] at h
   simp only at h
   cases hs:S r1 with
   | error x=>rw [hs] at h;cases h
   | ok q =>
     obtain ⟨s,r2⟩:=q
     rw [hs] at h
     have e:=(Prod.mk.inj (Except.ok.inj h)).2
     subst e
     exact (H _ _ _ hs).le (Yj hd)
theorem Zvm {S:Ul} (H:∀ ts l r,S ts=.ok (l,r)→Sfx r ts) {d:Nat} {ts r:List Tok} {x:Wi} (h:Xx S d ts=.ok (x,r)):Sfx r ts:=by
 unfold Xx at h
 split at h
 · rename_i ha
   cases hn:Zb ts.tail with
   | none=>rw [hn] at h;cases h
   | some q =>
     obtain ⟨o,r1⟩:=q
     rw [hn] at h
     exact (Pe H h).le ((Zc hn).1.trans (Zf ha).1)
 · cases hn:Zb ts with
   | none=>rw [hn] at h;exact Pe H h
   | some q =>
     obtain ⟨n,r1⟩:=q
     rw [hn] at h
     simp only at h
     cases hd:Zp false d r1 with
     | error x=>rw [hd] at h;cases h
     | ok q =>
       obtain ⟨ds,r2⟩:=q
       rw [hd] at h
       have e:=(Prod.mk.inj (Except.ok.inj h)).2
       subst e
       exact Sfx.of (Yj hd) (Zc hn)
theorem Zjp {S:Ul} (H:∀ ts l r,S ts=.ok (l,r)→Sfx r ts) {d:Nat} {al nm:ByteArray} {ts r:List Tok} {x:Wi} (h:Ua S d al nm ts=.ok (x,r)):r <:+ ts:=by
 unfold Ua at h
 cases hg:Ym false d ts with
 | error x=>rw [hg] at h;cases h
 | ok q =>
   obtain ⟨g,r0⟩:=q
   rw [hg] at h
   simp only at h
   cases hd:Zp false d r0 with
   | error x=>rw [hd] at h;cases h
   | ok q =>
     obtain ⟨ds,r1⟩:=q
     rw [hd] at h
     simp only at h
     split at h
     · cases hs:S r1 with
       | error x=>rw [hs] at h;cases h
       | ok q =>
         obtain ⟨s,r2⟩:=q
         rw [hs] at h
         have e:=(Prod.mk.inj (Except.ok.inj h)).2
         subst e
         exact (H _ _ _ hs).1.trans ((Yj hd).trans (Jk hg))
     · have e:=(Prod.mk.inj (Except.ok.inj h)).2
       subst e
       exact (Yj hd).trans (Jk hg)
theorem Ydl {S:Ul} (H:∀ ts l r,S ts=.ok (l,r)→Sfx r ts) {d:Nat} {ts r:List Tok} {x:Wi} (h:I5 S d ts=.ok (x,r)):Sfx r ts:=by
 unfold I5 at h
 cases hn:Zb ts with
 | none=>rw [hn] at h;cases h
 | some q =>
   obtain ⟨n,r1⟩:=q
   rw [hn] at h
   simp only at h
   split at h
   · rename_i ha
     cases hm:Zb r1.tail with
     | none=>rw [hm] at h;cases h
     | some q =>
       obtain ⟨n2,r2⟩:=q
       rw [hm] at h
       exact Sfx.of (Zjp H h) (((Zc hm).trans (Zf ha)).trans (Zc hn))
   · exact Sfx.of (Zjp H h) (Zc hn)
theorem Mu {S:Ul} (H:∀ ts l r,S ts=.ok (l,r)→Sfx r ts) {d:Nat} {ts r:List Tok} {x:Wi} (h:Jo S d ts=.ok (x,r)):Sfx r ts:=by
 unfold Jo at h
 split at h
 · rename_i ha
   exact (Zvm H h).trans (Zf ha)
 · exact Ydl H h
theorem Cx:∀ f:Nat,(∀ d ts l r,Ft f d ts=.ok (l,r)→Sfx r ts)∧(∀ d ts x r,Zqc f d ts=.ok (x,r)→Sfx r ts):=by
 intro f
 induction f with
 | zero =>
   refine ⟨fun _ _ _ _ h=>?_,fun _ _ _ _ h=>?_⟩
   · rw [Ft] at h;cases h
   · rw [Zqc] at h;cases h
 | succ f ih =>
   obtain ⟨i1,i2⟩:=ih
   refine ⟨fun d ts l r h=>?_,fun d ts x r h=>?_⟩
   · rw [Ft] at h
     split at h
     · rename_i ha
       split at h
       · cases h
       · exact (At (fun _ _ _ h=>i2 _ _ _ _ h) _ _ _ _ _ h).trans (Zf ha)
     · cases h
   · rw [Zqc] at h
     exact Mu (fun ts l r h=>i1 d ts l r h) h
theorem Iy {d:Nat} {ts r:List Tok} {l:Vy} (h:X8 d ts=.ok (l,r)):Sfx r ts:=(Cx _).1 _ _ _ _ h
theorem Oi {d:Nat} {ts r:List Tok} {x:Mw} (h:Gs d ts=.ok (x,r)):Sfx r ts:=by
 unfold Gs at h
 split at h
 · rename_i ha
   cases hn:Zb ts.tail with
   | none=>rw [hn] at h;cases h
   | some q =>
     obtain ⟨n,r1⟩:=q
     rw [hn] at h
     simp only at h
     split at h
     · rename_i hc
       cases ht:Zl 4 r1.tail with
       | error x=>rw [ht] at h;cases h
       | ok q =>
         obtain ⟨t,r2⟩:=q
         rw [ht] at h
         simp only at h
         have h0:=(((Zqj _ _ _ _ ht).trans (Zf hc)).trans (Zc hn)).trans (Zf ha)
         split at h
         · rename_i he
           cases hv:Uq true d r2.tail with
           | error x=>rw [hv] at h;cases h
           | ok q =>
             obtain ⟨v,r3⟩:=q
             rw [hv] at h
             have e:=(Prod.mk.inj (Except.ok.inj h)).2
             subst e
             exact ((Pr hv).trans (Zf he)).trans h0
         · have e:=(Prod.mk.inj (Except.ok.inj h)).2
           subst e
           exact h0
     · cases h
 · cases h
theorem Zjt {d:Nat} {ts r:List Tok} {l:List Mw} (h:Jj d ts=.ok (l,r)):r <:+ ts:=by
 unfold Jj at h
 split at h
 · rename_i ha
   exact ((At (fun _ _ _ h=>Oi h) _ _ _ _ _ h).trans (Zf ha)).1
 · have e:=(Prod.mk.inj (Except.ok.inj h)).2
   subst e;exact List.suffix_refl _
theorem Nd {kind:Int} {d:Nat} {nm:ByteArray} {ts r:List Tok} {x:OpT} (h:Jt kind d nm ts=.ok (x,r)):Sfx r ts:=by
 unfold Jt at h
 cases hv:Jj d ts with
 | error x=>rw [hv] at h;cases h
 | ok q =>
   obtain ⟨vs,r1⟩:=q
   rw [hv] at h
   simp only at h
   cases hd:Zp true d r1 with
   | error x=>rw [hd] at h;cases h
   | ok q =>
     obtain ⟨ds,r2⟩:=q
     rw [hd] at h
     simp only at h
     cases hs:X8 d r2 with
     | error x=>rw [hs] at h;cases h
     | ok q =>
       obtain ⟨s,r3⟩:=q
       rw [hs] at h
       have e:=(Prod.mk.inj (Except.ok.inj h)).2
       subst e
       exact (Iy hs).le ((Yj hd).trans (Zjt hv))
theorem Zjg {kind:Int} {d:Nat} {ts r:List Tok} {x:OpT} (h:opR kind d ts=.ok (x,r)):Sfx r ts:=by
 unfold opR at h
 cases hn:Zb ts with
 | none=>rw [hn] at h;exact Nd h
 | some q =>
   obtain ⟨n,r1⟩:=q
   rw [hn] at h
   exact (Nd h).trans (Zc hn)
theorem Pp {d:Nat} {ts r:List Tok} {x:Ql} (h:Ud d ts=.ok (x,r)):Sfx r ts:=by
 unfold Ud at h
 split at h
 · cases h
 · cases hn:Zb ts with
   | none=>rw [hn] at h;cases h
   | some q =>
     obtain ⟨n,r1⟩:=q
     rw [hn] at h
     simp only at h
     split at h
     · rename_i ha
       cases hm:Zb r1.tail with
       | none=>rw [hm] at h;cases h
       | some q =>
         obtain ⟨o,r2⟩:=q
         rw [hm] at h
         simp only at h
         cases hd:Zp true d r2 with
         | error x=>rw [hd] at h;cases h
         | ok q =>
           obtain ⟨ds,r3⟩:=q
           rw [hd] at h
           simp only at h
           cases hs:X8 d r3 with
           | error x=>rw [hs] at h;cases h
           | ok q =>
             obtain ⟨s,r4⟩:=q
             rw [hs] at h
             have e:=(Prod.mk.inj (Except.ok.inj h)).2
             subst e
             exact (Iy hs).le ((Yj hd).trans ((Zc hm).1.trans ((Zf ha).1.trans (Zc hn).1)))
     · cases h
theorem Yji {D D':Vs} {ts r:List Tok} (h:Zzg D ts=.ok (D',r)):Sfx r ts:=by
 unfold Zzg at h
 split at h
 · cases hs:X8 0 ts with
   | error x=>rw [hs] at h;cases h
   | ok q =>
     obtain ⟨s,r1⟩:=q
     rw [hs] at h
     have e:=(Prod.mk.inj (Except.ok.inj h)).2
     subst e
     exact Iy hs
 · split at h
   · rename_i ha
     cases hs:opR 0 0 ts.tail with
     | error x=>rw [hs] at h;cases h
     | ok q =>
       obtain ⟨s,r1⟩:=q
       rw [hs] at h
       have e:=(Prod.mk.inj (Except.ok.inj h)).2
       subst e
       exact (Zjg hs).trans (Zf ha)
   · split at h
     · rename_i ha
       cases hs:opR 1 0 ts.tail with
       | error x=>rw [hs] at h;cases h
       | ok q =>
         obtain ⟨s,r1⟩:=q
         rw [hs] at h
         have e:=(Prod.mk.inj (Except.ok.inj h)).2
         subst e
         exact (Zjg hs).trans (Zf ha)
     · split at h
       · rename_i ha
         cases hs:Ud 0 ts.tail with
         | error x=>rw [hs] at h;cases h
         | ok q =>
           obtain ⟨s,r1⟩:=q
           rw [hs] at h
           have e:=(Prod.mk.inj (Except.ok.inj h)).2
           subst e
           exact (Pp hs).trans (Zf ha)
       · cases h
def Xb (ts:List Tok):Prop:=Ze ts∧Ih ts
theorem Xb.sub {ts r:List Tok} (h:Xb ts) (hs:r <:+ ts):Xb r:=⟨fun t ht=>h.1 t (hs.subset ht),fun t ht=>h.2 t (hs.subset ht)⟩
theorem Xb.name {ts r:List Tok} {s:ByteArray} (h:Xb ts) (hn:Zb ts=some (s,r)):s.size≤9000:=(h.1.name hn).1
def L8 {α:Type} (r d:Nat) (w:World) (lay:World→(Nat→Prop)→α→Value→Prop) (R:Except Int (α × List Tok)) (e:Ending) (w':World):Prop:=
 match R with
 | .ok (a,ts')=>(∃ v,e=.returned v∧lay w' (Zs w w') a v)∧Rd w' r ts' d∧Z0 r w w'
 | .error x=>e=Y5 x∧Z0 r w w'
def Gt {α:Type} (enc:α→TrS) (w:World) (P:Nat→Prop) (a:α) (v:Value):Prop:=∃ cs:List Value,v=.agg cs.toArray∧TS w P (enc a) cs
def Zxh {α:Type} (enc:α→TrL) (w:World) (P:Nat→Prop) (a:α) (v:Value):Prop:=TP w P (.row (enc a)) v
theorem per {α:Type} {r d:Nat} {w w':World} {lay:World→(Nat→Prop)→α→Value→Prop} {R:Except Int (α × List Tok)} {x:Int} (hR:R=.error x) (m:Z0 r w w'):L8 r d w lay R (Y5 x) w':=by subst hR;exact ⟨rfl,m⟩
theorem X6 {α:Type} {r d:Nat} {w w':World} {lay:World→(Nat→Prop)→α→Value→Prop} {R:Except Int (α × List Tok)} {a:α} {ts':List Tok} {v:Value} (hR:R=.ok (a,ts')) (hl:lay w' (Zs w w') a v) (hr:Rd w' r ts' d) (m:Z0 r w w'):L8 r d w lay R (.returned v) w':=by subst hR;exact ⟨⟨v,rfl,hl⟩,hr,m⟩
theorem Yr {α:Type} {r d:Nat} {w w':World} {lay:World→(Nat→Prop)→α→Value→Prop} {x:Int} {e:Ending} (h:L8 r d w lay (.error x) e w'):e=Y5 x∧Z0 r w w':=h
theorem Jh {α:Type} {r d:Nat} {w w':World} {lay:World→(Nat→Prop)→α→Value→Prop} {a:α} {ts':List Tok} {e:Ending} (h:L8 r d w lay (.ok (a,ts')) e w'):(∃ v,e=.returned v∧lay w' (Zs w w') a v)∧Rd w' r ts' d∧Z0 r w w':=h
theorem Jl {k:Int} {s:ByteArray} {ts:List Tok} (h:atB k s ts=true):Vj k s ts=ts.tail:=by unfold Vj;rw [if_pos h]
theorem Vg {k:Int} {s:ByteArray} {ts:List Tok} (h:atB k s ts=false):Vj k s ts=ts:=by unfold Vj;rw [h];rfl
theorem TS.nil (w:World) (P:Nat→Prop):TS w P .nil []:=by unfold TS;rfl
theorem TS.str {w:World} {P:Nat→Prop} {s:ByteArray} {t:TrS} {cs:List Value} (hs:s.size≤9000) (h:TS w P t cs):TS w P (.cons (.one (.string s)) t) (.string s :: cs):=by
 rw [TS];exact ⟨_,_,rfl,by unfold TP;exact ⟨rfl,by show s.size≤_;omega⟩,h⟩
theorem TS.int {w:World} {P:Nat→Prop} {z:Int} {t:TrS} {cs:List Value} (h:TS w P t cs):TS w P (.cons (.one (.int .i64 z)) t) (.int .i64 z :: cs):=by
 rw [TS];exact ⟨_,_,rfl,by unfold TP;exact ⟨rfl,trivial⟩,h⟩
theorem TS.bool {w:World} {P:Nat→Prop} {b:Bool} {t:TrS} {cs:List Value} (h:TS w P t cs):TS w P (.cons (.one (.bool b)) t) (.bool b :: cs):=by
 rw [TS];exact ⟨_,_,rfl,by unfold TP;exact ⟨rfl,trivial⟩,h⟩
theorem TS.row {w:World} {P:Nat→Prop} {l:TrL} {c:Value} {t:TrS} {cs:List Value} (hl:TP w P (.row l) c) (h:TS w P t cs):TS w P (.cons (.row l) t) (c :: cs):=by
 rw [TS];exact ⟨_,_,rfl,hl,h⟩
theorem TP.none (w:World) (P:Nat→Prop):TP w P (.row .nil) (.slice none 0 0):=by
 unfold TP;exact ⟨_,_,rfl,Nat.zero_le _,by unfold Xp;trivial⟩
theorem Yx {α:Type} {enc:α→TrL} {w:World} {P:Nat→Prop} {a:α} {v:Value} (h:Zxh enc w P a v):∃ A c,v=.slice A (enc a).len c∧TP w P (.row (enc a)) (.slice A (enc a).len c):=by
 have h0:=h
 unfold Zxh TP at h0
 obtain ⟨A,c,rfl,_⟩:=h0
 exact ⟨A,c,rfl,h⟩
def setAll (W:World) (b:Nat):Nat→List Value→World
 | _,[]=>W
 | i,x :: t=>setAll (W.setCell ⟨b,i,none⟩ x) b (i+1) t
theorem V8 (b:Nat):∀ (xs:List Value) (i:Nat) (W:World),(setAll W b i xs).heap.size=W.heap.size
 | [],_,_=>rfl
 | x :: t,i,W=>by rw [setAll,V8 b t];simp [World.setCell]
theorem Yb {b k:Nat} (hk:k ≠ b):∀ (xs:List Value) (i:Nat) (W:World),(setAll W b i xs).heap[k]? = W.heap[k]?
 | [],_,_=>rfl
 | x :: t,i,W=>by rw [setAll,Yb hk t,Below.heap_setCell _ _ _ _ hk]
theorem Bz {b:Nat} {t:TypeId} : ∀ (xs:List Value) (pre:List Value) (ys:List Value) (W:World),ys.length=xs.length→W.heap[b]? = some (.cells (pre++ys).toArray t (0,0))→(setAll W b pre.length xs).heap[b]? = some (.cells (pre++xs).toArray t (0,0))
 | [],pre,ys,W,hl,h=>by
   have:ys=[]:=List.eq_nil_of_length_eq_zero hl
   subst this
   exact h
 | x :: xs,pre,ys,W,hl,h=>by
   cases ys with
   | nil=>cases hl
   | cons y ys =>
     rw [setAll]
     have h2:=heap_setCell_same W b pre.length _ t x h
     have e:((pre++y :: ys).toArray.setIfInBounds pre.length x)=((pre++[x])++ys).toArray:=by
      simp
     rw [e] at h2
     have:=Bz xs (pre++[x]) ys (W.setCell ⟨b,pre.length,none⟩ x) (by simpa using hl) h2
     rw [List.length_append,List.length_singleton] at this
     rw [this];simp
theorem Y9 {b:Nat} {t:TypeId} {xs ys:List Value} {W:World} (hl:ys.length=xs.length) (h:W.heap[b]? = some (.cells ys.toArray t (0,0))):(setAll W b 0 xs).heap[b]? = some (.cells xs.toArray t (0,0)):=
 Bz xs [] ys W hl h
theorem Z0.setAll {r b:Nat} {w:World} (hb:w.heap.size≤b):∀ (xs:List Value) (i:Nat) (W:World),Z0 r w W→Z0 r w (setAll W b i xs)
 | [],_,_,h=>h
 | x :: t,i,W,h=>by rw [Proofs.YtpkmbhnikilihaaGreatDoor.setAll];exact Z0.setAll hb t _ _ (h.put hb)
theorem Rd.setAll {r b:Nat} {ts:List Tok} {d:Nat} (hb:r < b):∀ (xs:List Value) (i:Nat) (W:World),Rd W r ts d→Rd (setAll W b i xs) r ts d
 | [],_,_,h=>h
 | x :: t,i,W,h=>by rw [Proofs.YtpkmbhnikilihaaGreatDoor.setAll];exact Rd.setAll hb t _ _ (h.set hb)
theorem KRd.setAll {r b:Nat} (hb:r < b):∀ (xs:List Value) (i:Nat) (W:World),KRd r W→KRd r (setAll W b i xs)
 | [],_,_,h=>h
 | x :: t,i,W,h=>by rw [Proofs.YtpkmbhnikilihaaGreatDoor.setAll];exact KRd.setAll hb t _ _ (h.set hb)
theorem Yq {B b:Nat} {W:World} (hb:B≤b):∀ (xs:List Value) (i:Nat) (W':World),Below B W W'→Below B W (setAll W' b i xs)
 | [],_,_,h=>h
 | x :: t,i,W',h=>by rw [Proofs.YtpkmbhnikilihaaGreatDoor.setAll];exact Yq hb t _ _ (h.setCell (p:=⟨b,i,none⟩) hb x)
structure S0 (w:World) (r:Nat) (W:World) (o:Obj) (ts:List Tok) (d:Nat):Prop where
 res:W.heap[w.heap.size]? = some o
 mv:Z0 r w W
 hr:r < w.heap.size
 rd:Rd W r ts d
 k:KRd r W
theorem S0.lt {w:World} {r:Nat} {W:World} {o:Obj} {ts:List Tok} {d:Nat} (h:S0 w r W o ts d):w.heap.size < W.heap.size:=(Array.getElem?_eq_some_iff.1 h.res).1
theorem S0.start {w:World} {r:Nat} {ts:List Tok} {d:Nat} (hR:Rd w r ts d) (hK:KRd r w) (cs:Array Value) (t:TypeId):S0 w r (w.alloc (.cells cs t)) (.cells cs t (0,0)) ts d:=
 ⟨heap_alloc_new _ _,Z0.of_below (blw _ _),hR.lt,hR.below (blw _ _),hK.moved (Z0.of_below (blw _ _))⟩
theorem S0.next {w:World} {r:Nat} {W W':World} {o:Obj} {ts ts':List Tok} {d d':Nat} (h:S0 w r W o ts d) (rd:Rd W' r ts' d') (m:Z0 r W W'):S0 w r W' o ts' d':=
 ⟨m.keep h.res (by have:=h.hr;omega),h.mv.trans m,h.hr,rd,h.k.moved m⟩
structure S1 (w:World) (r:Nat) (W:World) (o:Obj) (b:Nat) (o1:Obj) (ts:List Tok) (d:Nat):Prop where
 res:W.heap[w.heap.size]? = some o
 loc:W.heap[b]? = some o1
 bl:w.heap.size < b
 mv:Z0 r w W
 hr:r < w.heap.size
 rd:Rd W r ts d
 k:KRd r W
theorem S1.blt {w:World} {r:Nat} {W:World} {o:Obj} {b:Nat} {o1:Obj} {ts:List Tok} {d:Nat} (h:S1 w r W o b o1 ts d):b < W.heap.size:=(Array.getElem?_eq_some_iff.1 h.loc).1
theorem S1.rb {w:World} {r:Nat} {W:World} {o:Obj} {b:Nat} {o1:Obj} {ts:List Tok} {d:Nat} (h:S1 w r W o b o1 ts d):r < b:=Nat.lt_trans h.hr h.bl
theorem S1.of {w:World} {r:Nat} {W W':World} {o o1:Obj} {ts:List Tok} {d:Nat} (h:S0 w r W o ts d) (hl:W'.heap[W.heap.size]? = some o1) (hb:Below W.heap.size W W'):S1 w r W' o W.heap.size o1 ts d:=
 ⟨(hb.block _ h.lt).trans h.res,hl,h.lt,h.mv.trans (Z0.of_below hb),h.hr,h.rd.below hb,h.k.moved (Z0.of_below hb)⟩
theorem S1.make {w:World} {r:Nat} {W:World} {o:Obj} {ts:List Tok} {d:Nat} (h:S0 w r W o ts d) (cs:Array Value) (t:TypeId):S1 w r (W.alloc (.cells cs t)) o W.heap.size (.cells cs t (0,0)) ts d:=
 S1.of h (heap_alloc_new _ _) (blw _ _)
theorem S1.next {w:World} {r:Nat} {W W':World} {o:Obj} {b:Nat} {o1:Obj} {ts ts':List Tok} {d d':Nat} (h:S1 w r W o b o1 ts d) (rd:Rd W' r ts' d') (m:Z0 r W W'):S1 w r W' o b o1 ts' d':=
 ⟨m.keep h.res (by have:=h.hr;omega),m.keep h.loc (by have:=h.rb;omega),h.bl,h.mv.trans m,h.hr,rd,h.k.moved m⟩
theorem S1.put {w:World} {r:Nat} {W:World} {o:Obj} {b:Nat} {cs:Array Value} {t:TypeId} {ts:List Tok} {d:Nat} (h:S1 w r W o b (.cells cs t (0,0)) ts d) (i:Nat) (v:Value):S1 w r (W.setCell ⟨b,i,none⟩ v) o b (.cells (cs.setIfInBounds i v) t (0,0)) ts d:=
 ⟨V9 h.res (by have:=h.bl;omega),heap_setCell_same _ _ _ _ _ _ h.loc,h.bl,h.mv.put (Nat.le_of_lt h.bl),h.hr,h.rd.set h.rb,h.k.set h.rb⟩
def Ov (b:Nat) (W:World) (x:Tr) (c:Value):Prop:=TP W (fun k=>b < k∧k < W.heap.size) x c
def OvS (b:Nat) (W:World) (x:TrS) (c:List Value):Prop:=TS W (fun k=>b < k∧k < W.heap.size) x c
theorem Ov.of {b:Nat} {W W':World} {x:Tr} {c:Value} (h:TP W' (Zs W W') x c) (hb:b < W.heap.size):Ov b W' x c:=TP.keep (fun _ hk=>⟨⟨Nat.lt_of_lt_of_le hb hk.1,hk.2⟩,rfl⟩) _ _ h
theorem OvS.of {b:Nat} {W W':World} {x:TrS} {c:List Value} (h:TS W' (Zs W W') x c) (hb:b < W.heap.size):OvS b W' x c:=TS.keep (fun _ hk=>⟨⟨Nat.lt_of_lt_of_le hb hk.1,hk.2⟩,rfl⟩) _ _ h
theorem Ov.next {b r:Nat} {W W':World} {x:Tr} {c:Value} (h:Ov b W x c) (m:Z0 r W W') (hr:r < b):Ov b W' x c:=TP.keep (fun k hk=>⟨⟨hk.1,Nat.lt_of_lt_of_le hk.2 m.size⟩,m.block k hk.2 (fun e=>by have:=hk.1;injection e;omega)⟩) _ _ h
theorem OvS.next {b r:Nat} {W W':World} {x:TrS} {c:List Value} (h:OvS b W x c) (m:Z0 r W W') (hr:r < b):OvS b W' x c:=TS.keep (fun k hk=>⟨⟨hk.1,Nat.lt_of_lt_of_le hk.2 m.size⟩,m.block k hk.2 (fun e=>by have:=hk.1;injection e;omega)⟩) _ _ h
theorem Ov.put {b i c0:Nat} {W:World} {x:Tr} {c v:Value} (h:Ov b W x c) (hb:c0≤b):Ov b (W.setCell ⟨c0,i,none⟩ v) x c:=TP.keep (fun k hk=>⟨⟨hk.1,by have:=hk.2;simpa [World.setCell] using this⟩,Below.heap_setCell _ _ _ _ (show k ≠ c0 by have:=hk.1;omega)⟩) _ _ h
theorem OvS.put {b i c0:Nat} {W:World} {x:TrS} {c:List Value} {v:Value} (h:OvS b W x c) (hb:c0≤b):OvS b (W.setCell ⟨c0,i,none⟩ v) x c:=TS.keep (fun k hk=>⟨⟨hk.1,by have:=hk.2;simpa [World.setCell] using this⟩,Below.heap_setCell _ _ _ _ (show k ≠ c0 by have:=hk.1;omega)⟩) _ _ h
theorem Ov.fin {b:Nat} {w W:World} {x:Tr} {c:Value} (h:Ov b W x c) (hb:w.heap.size≤b) (xs:List Value):TP (setAll W w.heap.size 0 xs) (Zs w (setAll W w.heap.size 0 xs)) x c:=TP.keep (fun k hk=>⟨⟨by have:=hk.1;omega,by rw [V8];exact hk.2⟩,Yb (by have:=hk.1;omega) _ _ _⟩) _ _ h
theorem OvS.fin {b:Nat} {w W:World} {x:TrS} {c:List Value} (h:OvS b W x c) (hb:w.heap.size≤b) (xs:List Value):TS (setAll W w.heap.size 0 xs) (Zs w (setAll W w.heap.size 0 xs)) x c:=TS.keep (fun k hk=>⟨⟨by have:=hk.1;omega,by rw [V8];exact hk.2⟩,Yb (by have:=hk.1;omega) _ _ _⟩) _ _ h
theorem S1.fin {w:World} {r:Nat} {W:World} {ys:List Value} {t:TypeId} {b:Nat} {o1:Obj} {ts:List Tok} {d:Nat} (h:S1 w r W (.cells ys.toArray t (0,0)) b o1 ts d) (xs:List Value) (hl:ys.length=xs.length) :
  (setAll W w.heap.size 0 xs).heap[w.heap.size]? = some (.cells xs.toArray t (0,0))∧Rd (setAll W w.heap.size 0 xs) r ts d∧Z0 r w (setAll W w.heap.size 0 xs):=
 ⟨Y9 hl h.res,h.rd.setAll h.hr _ _ _,Z0.setAll (Nat.le_refl _) _ _ _ h.mv⟩
theorem S0.fin {w:World} {r:Nat} {W:World} {ys:List Value} {t:TypeId} {ts:List Tok} {d:Nat} (h:S0 w r W (.cells ys.toArray t (0,0)) ts d) (xs:List Value) (hl:ys.length=xs.length) :
  (setAll W w.heap.size 0 xs).heap[w.heap.size]? = some (.cells xs.toArray t (0,0))∧Rd (setAll W w.heap.size 0 xs) r ts d∧Z0 r w (setAll W w.heap.size 0 xs):=
 ⟨Y9 hl h.res,h.rd.setAll h.hr _ _ _,Z0.setAll (Nat.le_refl _) _ _ _ h.mv⟩
theorem Y8 {R:Ending→World→Prop} {fn:Func} {a:Act} {W:World} {cs:List Value} {ty:TypeId} {p b:Nat} {ds:TypeDesc} (hf:fn.results=#[.cell p ty]) (h2:a.tmps.getD p undef=.pointer (some ⟨b,0,none⟩)) (hd:a.defers=[])
  (hc:W.heap[b]? = some (.cells cs.toArray ty (0,0))) (hu:Tryz.prog.underlying ty=some ds) (hs:∃ fs,ds=.struct fs) (hi:(Tryz.prog.info? ty).map (·.size)=some cs.length) (hR:R (.returned (.agg cs.toArray)) W):bodyPost Tryz.prog fn R .ret a W:=by
 obtain ⟨fs,rfl⟩:=hs
 have hl:(loadVar ty ⟨b,0,none⟩).run Tryz.prog W=.ok (.agg cs.toArray) W:=run_loadVar_row W b ty ty cs.toArray (0,0) _ hc hu rfl (by rw [hi];simp)
 refine bodyPost_ret ?_ hd hR
 have h2':a.tmps[p]?.getD undef=.pointer (some ⟨b,0,none⟩):=by rw [← h2];simp
 simp [results,hf,h2',asAddr,hl]
theorem Z8 {w:World} {b:Nat} {z0 z1 z2 z3:Value} {t:TypeId} (h:w.heap[b]? = some (.cells #[z0,z1,z2,z3] t (0,0))):w.cell? ⟨b,0,none⟩=some z0∧w.cell? ⟨b,1,none⟩=some z1∧w.cell? ⟨b,2,none⟩=some z2∧w.cell? ⟨b,3,none⟩=some z3∧∀ i,w.frozen? ⟨b,i,none⟩=false:=by
 refine ⟨?_,?_,?_,?_,fun i=>?_⟩
 all_goals first|(simp only [World.cell?,h];rfl)|simp [World.frozen?,h]
theorem svc {w:World} {b:Nat} {z0 z1 z2 z3 z4 z5 z6:Value} {t:TypeId} (h:w.heap[b]? = some (.cells #[z0,z1,z2,z3,z4,z5,z6] t (0,0))):w.cell? ⟨b,0,none⟩=some z0∧w.cell? ⟨b,1,none⟩=some z1∧w.cell? ⟨b,2,none⟩=some z2∧w.cell? ⟨b,3,none⟩=some z3∧w.cell? ⟨b,4,none⟩=some z4∧w.cell? ⟨b,5,none⟩=some z5∧w.cell? ⟨b,6,none⟩=some z6∧∀ i,w.frozen? ⟨b,i,none⟩=false:=by
 refine ⟨?_,?_,?_,?_,?_,?_,?_,fun i=>?_⟩
 all_goals first|(simp only [World.cell?,h];rfl)|simp [World.frozen?,h]
theorem J6 {w:World} {b:Nat} {z0 z1 z2 z3 z4 z5 z6 z7 z8 z9:Value} {t:TypeId} (h:w.heap[b]? = some (.cells #[z0,z1,z2,z3,z4,z5,z6,z7,z8,z9] t (0,0))):w.cell? ⟨b,0,none⟩=some z0∧w.cell? ⟨b,1,none⟩=some z1∧w.cell? ⟨b,2,none⟩=some z2∧w.cell? ⟨b,3,none⟩=some z3∧w.cell? ⟨b,4,none⟩=some z4∧w.cell? ⟨b,5,none⟩=some z5∧w.cell? ⟨b,6,none⟩=some z6∧w.cell? ⟨b,7,none⟩=some z7∧w.cell? ⟨b,8,none⟩=some z8∧w.cell? ⟨b,9,none⟩=some z9∧∀ i,w.frozen? ⟨b,i,none⟩=false:=by
 refine ⟨?_,?_,?_,?_,?_,?_,?_,?_,?_,?_,fun i=>?_⟩
 all_goals first|(simp only [World.cell?,h];rfl)|simp [World.frozen?,h]
theorem ptc {w:World} {b:Nat} {z0 z1:Value} {t:TypeId} (h:w.heap[b]? = some (.cells #[z0,z1] t (0,0))):w.cell? ⟨b,0,none⟩=some z0∧w.cell? ⟨b,1,none⟩=some z1∧∀ i,w.frozen? ⟨b,i,none⟩=false:=by
 refine ⟨?_,?_,fun i=>?_⟩
 all_goals first|(simp only [World.cell?,h];rfl)|simp [World.frozen?,h]
theorem W4 {w:World} {P:Nat→Prop} {a:VT} {v:Value} (h:Gt Lm w P a v):∃ (i0:Int) (i1:Int) (s2:ByteArray) (A3:Option Addr) (n3 c3:Nat) (A4:Option Addr) (n4 c4:Nat),v=.agg #[.int .i64 i0,.int .i64 i1,.string s2,.slice A3 n3 c3,.slice A4 n4 c4]∧TS w P (Lm a) [.int .i64 i0,.int .i64 i1,.string s2,.slice A3 n3 c3,.slice A4 n4 c4]:=by
 obtain ⟨cs,rfl,h⟩:=h
 have h0:=h
 obtain ⟨k,n,s,l,m⟩:=a
 rw [Lm] at h0
 simp only [TS,TP] at h0
 obtain ⟨c0,_,rfl,⟨rfl,_⟩,c1,_,rfl,⟨rfl,_⟩,c2,_,rfl,⟨rfl,_⟩,c3,_,rfl,⟨A3,k3,rfl,_,_⟩,c4,_,rfl,⟨A4,k4,rfl,_,_⟩,rfl⟩:=h0
 exact ⟨_,_,_,_,_,_,_,_,_,rfl,h⟩
theorem Zk2 {w:World} {P:Nat→Prop} {a:ByteArray × VT} {v:Value} (h:Gt (fun p=>Gu p.1 p.2) w P a v):∃ (s0:ByteArray) (i1:Int) (i2:Int) (s3:ByteArray) (A4:Option Addr) (n4 c4:Nat) (A5:Option Addr) (n5 c5:Nat),v=.agg #[.string s0,.int .i64 i1,.int .i64 i2,.string s3,.slice A4 n4 c4,.slice A5 n5 c5]∧TS w P ((fun p=>Gu p.1 p.2) a) [.string s0,.int .i64 i1,.int .i64 i2,.string s3,.slice A4 n4 c4,.slice A5 n5 c5]:=by
 obtain ⟨cs,rfl,h⟩:=h
 have h0:=h
 obtain ⟨nm,k,n,s,l,m⟩:=a
 simp only [Gu,Lm,TS,TP] at h0
 obtain ⟨c0,_,rfl,⟨rfl,_⟩,c1,_,rfl,⟨rfl,_⟩,c2,_,rfl,⟨rfl,_⟩,c3,_,rfl,⟨rfl,_⟩,c4,_,rfl,⟨A4,k4,rfl,_,_⟩,c5,_,rfl,⟨A5,k5,rfl,_,_⟩,rfl⟩:=h0
 exact ⟨_,_,_,_,_,_,_,_,_,_,rfl,h⟩
theorem Zkw {w:World} {P:Nat→Prop} {a:Wi} {v:Value} (h:Gt Gk w P a v):∃ (i0:Int) (s1:ByteArray) (s2:ByteArray) (A3:Option Addr) (n3 c3:Nat) (A4:Option Addr) (n4 c4:Nat) (s5:ByteArray) (A6:Option Addr) (n6 c6:Nat),v=.agg #[.int .i64 i0,.string s1,.string s2,.slice A3 n3 c3,.slice A4 n4 c4,.string s5,.slice A6 n6 c6]∧TS w P (Gk a) [.int .i64 i0,.string s1,.string s2,.slice A3 n3 c3,.slice A4 n4 c4,.string s5,.slice A6 n6 c6]:=by
 obtain ⟨cs,rfl,h⟩:=h
 have h0:=h
 obtain ⟨k,a,n,g,d,o,s⟩:=a
 rw [Gk] at h0
 simp only [TS,TP] at h0
 obtain ⟨c0,_,rfl,⟨rfl,_⟩,c1,_,rfl,⟨rfl,_⟩,c2,_,rfl,⟨rfl,_⟩,c3,_,rfl,⟨A3,k3,rfl,_,_⟩,c4,_,rfl,⟨A4,k4,rfl,_,_⟩,c5,_,rfl,⟨rfl,_⟩,c6,_,rfl,⟨A6,k6,rfl,_,_⟩,rfl⟩:=h0
 exact ⟨_,_,_,_,_,_,_,_,_,_,_,_,_,rfl,h⟩
theorem Yg4 {w:World} {P:Nat→Prop} {a:Mw} {v:Value} (h:Gt Y7 w P a v):∃ (s0:ByteArray) (s1:ByteArray) (i2:Int) (i3:Int) (b4:Bool) (i5:Int) (i6:Int) (s7:ByteArray) (A8:Option Addr) (n8 c8:Nat) (A9:Option Addr) (n9 c9:Nat),v=.agg #[.string s0,.string s1,.int .i64 i2,.int .i64 i3,.bool b4,.int .i64 i5,.int .i64 i6,.string s7,.slice A8 n8 c8,.slice A9 n9 c9]∧TS w P (Y7 a) [.string s0,.string s1,.int .i64 i2,.int .i64 i3,.bool b4,.int .i64 i5,.int .i64 i6,.string s7,.slice A8 n8 c8,.slice A9 n9 c9]:=by
 obtain ⟨cs,rfl,h⟩:=h
 have h0:=h
 obtain ⟨n,tn,tl,tm,has,k,nn,s,l,m⟩:=a
 unfold Y7 at h0
 rw [Lm] at h0
 simp only [TS,TP] at h0
 obtain ⟨c0,_,rfl,⟨rfl,_⟩,c1,_,rfl,⟨rfl,_⟩,c2,_,rfl,⟨rfl,_⟩,c3,_,rfl,⟨rfl,_⟩,c4,_,rfl,⟨rfl,_⟩,c5,_,rfl,⟨rfl,_⟩,c6,_,rfl,⟨rfl,_⟩,c7,_,rfl,⟨rfl,_⟩,c8,_,rfl,⟨A8,k8,rfl,_,_⟩,c9,_,rfl,⟨A9,k9,rfl,_,_⟩,rfl⟩:=h0
 exact ⟨_,_,_,_,_,_,_,_,_,_,_,_,_,_,rfl,h⟩
theorem Yc0 {w:World} {P:Nat→Prop} {a:OpT} {v:Value} (h:Gt Ya w P a v):∃ (i0:Int) (s1:ByteArray) (A2:Option Addr) (n2 c2:Nat) (A3:Option Addr) (n3 c3:Nat) (A4:Option Addr) (n4 c4:Nat),v=.agg #[.int .i64 i0,.string s1,.slice A2 n2 c2,.slice A3 n3 c3,.slice A4 n4 c4]∧TS w P (Ya a) [.int .i64 i0,.string s1,.slice A2 n2 c2,.slice A3 n3 c3,.slice A4 n4 c4]:=by
 obtain ⟨cs,rfl,h⟩:=h
 have h0:=h
 unfold Ya at h0
 simp only [TS,TP] at h0
 obtain ⟨c0,_,rfl,⟨rfl,_⟩,c1,_,rfl,⟨rfl,_⟩,c2,_,rfl,⟨A2,k2,rfl,_,_⟩,c3,_,rfl,⟨A3,k3,rfl,_,_⟩,c4,_,rfl,⟨A4,k4,rfl,_,_⟩,rfl⟩:=h0
 exact ⟨_,_,_,_,_,_,_,_,_,_,_,rfl,h⟩
theorem Sk {w:World} {P:Nat→Prop} {a:Ql} {v:Value} (h:Gt Ur w P a v):∃ (s0:ByteArray) (s1:ByteArray) (A2:Option Addr) (n2 c2:Nat) (A3:Option Addr) (n3 c3:Nat),v=.agg #[.string s0,.string s1,.slice A2 n2 c2,.slice A3 n3 c3]∧TS w P (Ur a) [.string s0,.string s1,.slice A2 n2 c2,.slice A3 n3 c3]:=by
 obtain ⟨cs,rfl,h⟩:=h
 have h0:=h
 unfold Ur at h0
 simp only [TS,TP] at h0
 obtain ⟨c0,_,rfl,⟨rfl,_⟩,c1,_,rfl,⟨rfl,_⟩,c2,_,rfl,⟨A2,k2,rfl,_,_⟩,c3,_,rfl,⟨A3,k3,rfl,_,_⟩,rfl⟩:=h0
 exact ⟨_,_,_,_,_,_,_,_,rfl,h⟩
theorem Zkh (fx:Bool) (d:Nat) (ts:List Tok) (r:Nat) (w:World) (hG:Xb ts) (hd:d≤16) (hR:Rd w r ts d) (hK:KRd r w):Calls Tryz.prog 49 #[.pointer (some ⟨r,0,none⟩),.bool fx] w (L8 r d w (Gt Lm) (Uq fx d ts)):=by
 refine (Ybb (2*ts.length+1) fx d ts r w (Nat.le_refl _) hG.1 hd hR hK).mono ?_
 intro e w' h
 unfold Uq
 cases hv:F3 (2*ts.length+1) fx d ts with
 | error x=>rw [hv] at h;exact h
 | ok p =>
   obtain ⟨v,ts'⟩:=p
   rw [hv] at h
   obtain ⟨⟨d0,d1,d2,d3,d4,rfl,hvp⟩,h1,_,h3⟩:=h
   exact ⟨⟨_,rfl,[d0,d1,d2,d3,d4],rfl,Ycv _ _ _ _ _ _ hvp⟩,h1,h3⟩
theorem Yfc (fx:Bool) (d:Nat) (ts:List Tok) (r:Nat) (w:World) (hG:Xb ts) (hd:d≤16) (hR:Rd w r ts d) (hK:KRd r w):Calls Tryz.prog 187 #[.pointer (some ⟨r,0,none⟩),.bool fx] w (L8 r d w (Gt (fun p=>Gu p.1 p.2)) (Cy fx d ts)):=by
 refine (Zy9 (2*ts.length+1) fx d ts r w (Nat.le_refl _) hG.1 hd hR hK).mono ?_
 intro e w' h
 unfold Cy
 cases hv:Cj (2*ts.length+1) fx d ts with
 | error x=>rw [hv] at h;exact h
 | ok p =>
   obtain ⟨⟨nm,v⟩,ts'⟩:=p
   rw [hv] at h
   obtain ⟨⟨d0,d1,d2,d3,d4,rfl,hs,hvp⟩,h1,_,h3⟩:=h
   exact ⟨⟨_,rfl,[.string nm,d0,d1,d2,d3,d4],rfl,TS.str hs (Ycv _ _ _ _ _ _ hvp)⟩,h1,h3⟩
def Vy.get:Vy→Nat→Option Wi
 | .nil,_=>none
 | .cons x _,0=>some x
 | .cons _ t,q+1=>t.get q
theorem Vy.get_lt:∀ {l:Vy} {q:Nat},q < l.len→∃ x,l.get q=some x
 | .nil,_,h=>by simp [Vy.len] at h
 | .cons x _,0,_=>⟨x,rfl⟩
 | .cons _ t,q+1,h=>Vy.get_lt (l:=t) (by rw [Vy.len] at h;omega)
mutual
def szS:Wi→Nat
 | .mk _ _ _ _ _ _ s=>szL s+1
def szL:Vy→Nat
 | .nil=>1
 | .cons x t=>szS x+szL t+1
end
theorem Zyt:∀ {l:Vy} {q:Nat} {x:Wi},l.get q=some x→szS x < szL l
 | .nil,_,_,h=>by simp [Vy.get] at h
 | .cons x t,0,y,h=>by
   obtain rfl:x=y:=by simpa [Vy.get] using h
   rw [szL];omega
 | .cons x t,q+1,y,h=>by
   have:=Zyt (l:=t) (q:=q) (x:=y) (by simpa [Vy.get] using h)
   rw [szL];omega
theorem Yh6:∀ x:Wi,(Gk x).len=7
 | .mk _ _ _ _ _ _ _=>by rw [Gk];rfl
theorem N0 {w:World} {P:Nat→Prop} : ∀ {l:Vy} {A:Option Addr} {q:Nat} {x:Wi},Xp w P (Z7 l) A→l.get q=some x →
   ∃ b o cs,A=some ⟨b,o,none⟩∧P b∧(∀ j u,cs[j]? = some u→w.cell? ⟨b,o+q*7+j,none⟩=some u)∧TS w P (Gk x) cs
 | .nil,_,_,_,_,h=>by simp [Vy.get] at h
 | .cons a t,A,0,x,h,hx=>by
   obtain rfl:a=x:=by simpa [Vy.get] using hx
   rw [Z7] at h
   unfold Xp at h
   obtain ⟨b,o,cs,e,hb,hc,h1,_⟩:=h
   exact ⟨b,o,cs,e,hb,fun j u hj=>by rw [Nat.zero_mul,Nat.add_zero];exact hc j u hj,h1⟩
 | .cons a t,A,q+1,x,h,hx=>by
   rw [Z7] at h
   unfold Xp at h
   obtain ⟨b,o,cs,e,hb,hc,h1,h2⟩:=h
   have hx:t.get q=some x:=by simpa [Vy.get] using hx
   obtain ⟨b',o',cs',e',hb',hc',h1'⟩:=N0 h2 hx
   have e':=Option.some.inj e'
   injection e' with e1 e2 _
   subst e1 e2
   rw [Yh6] at hc'
   exact ⟨b,o,cs',e,hb,fun j u hj=>by rw [Nat.add_mul,Nat.one_mul,Nat.add_comm (q*7) 7,← Nat.add_assoc];exact hc' j u hj,h1'⟩
def Gn (w:World) (B:Nat) (g:VM) (d:List Lk) (s:Vy) (Ag Ad As:Option Addr):Prop:=
 g.len≤9223372036854775807∧d.length≤9223372036854775807∧s.len≤9223372036854775807∧MAt w B g Ag 0∧Xp w (fun b=>b < B) (Z5 Xc d) Ad∧Xp w (fun b=>b < B) (Z7 s) As
theorem Yhr {w:World} {B:Nat} {l:Vy} {A:Option Addr} {q:Nat} {k:Int} {a n:ByteArray} {g:VM} {d:List Lk} {o:ByteArray} {s:Vy} (h:Xp w (fun b=>b < B) (Z7 l) A) (hx:l.get q=some (.mk k a n g d o s)) :
  ∃ b p Ag kg Ad kd As ks,A=some ⟨b,p,none⟩∧b < B∧(w.cell? ⟨b,p+q*7,none⟩=some (.int .i64 k)∧w.cell? ⟨b,p+q*7+1,none⟩=some (.string a)∧w.cell? ⟨b,p+q*7+2,none⟩=some (.string n)∧w.cell? ⟨b,p+q*7+3,none⟩=some (.slice Ag g.len kg)∧w.cell? ⟨b,p+q*7+4,none⟩=some (.slice Ad d.length kd)∧w.cell? ⟨b,p+q*7+5,none⟩=some (.string o)∧w.cell? ⟨b,p+q*7+6,none⟩=some (.slice As s.len ks))∧Gn w B g d s Ag Ad As:=by
 obtain ⟨b,p,cs,e,hb,hc,h1⟩:=N0 h hx
 rw [Gk] at h1
 simp only [TS,TP] at h1
 obtain ⟨c0,_,rfl,⟨rfl,_⟩,c1,_,rfl,⟨rfl,_⟩,c2,_,rfl,⟨rfl,_⟩,c3,_,rfl,⟨Ag,kg,rfl,hgl,hG⟩,c4,_,rfl,⟨Ad,kd,rfl,hdl,hD⟩,c5,_,rfl,⟨rfl,_⟩,c6,_,rfl,⟨As,ks,rfl,hsl,hS⟩,rfl⟩:=h1
 rw [Ey] at hc hgl
 rw [Zt] at hc hdl
 rw [F4] at hc hsl
 exact ⟨b,p,Ag,kg,Ad,kd,As,ks,e,hb,⟨hc 0 _ rfl,hc 1 _ rfl,hc 2 _ rfl,hc 3 _ rfl,hc 4 _ rfl,hc 5 _ rfl,hc 6 _ rfl⟩,hgl,hdl,hsl,Yhn hG,hD,hS⟩
theorem Gn.below {w w':World} {B:Nat} (hb:Below B w w') {g:VM} {d:List Lk} {s:Vy} {Ag Ad As:Option Addr} (h:Gn w B g d s Ag Ad As):Gn w' B g d s Ag Ad As:=
 ⟨h.1,h.2.1,h.2.2.1,MAt.below hb _ _ _ h.2.2.2.1,Xp.below hb h.2.2.2.2.1,Xp.below hb h.2.2.2.2.2⟩
def K7 (w:World) (x y:Nat) (c0 c1 c2 c3 c4 c5 c6 d0 d1 d2 d3 d4 d5 d6:Value) (W:World):Prop:=
 (W.cell? ⟨x,0,none⟩=some c0∧W.cell? ⟨x,1,none⟩=some c1∧W.cell? ⟨x,2,none⟩=some c2∧W.cell? ⟨x,3,none⟩=some c3∧W.cell? ⟨x,4,none⟩=some c4∧W.cell? ⟨x,5,none⟩=some c5∧W.cell? ⟨x,6,none⟩=some c6∧W.cell? ⟨y,0,none⟩=some d0∧W.cell? ⟨y,1,none⟩=some d1∧W.cell? ⟨y,2,none⟩=some d2∧W.cell? ⟨y,3,none⟩=some d3∧W.cell? ⟨y,4,none⟩=some d4∧W.cell? ⟨y,5,none⟩=some d5∧W.cell? ⟨y,6,none⟩=some d6)∧x < W.heap.size∧y < W.heap.size∧Below w.heap.size w W
theorem K7.cells {w W:World} {x y:Nat} {c0 c1 c2 c3 c4 c5 c6 d0 d1 d2 d3 d4 d5 d6:Value} (h:K7 w x y c0 c1 c2 c3 c4 c5 c6 d0 d1 d2 d3 d4 d5 d6 W):W.cell? ⟨x,0,none⟩=some c0∧W.cell? ⟨x,1,none⟩=some c1∧W.cell? ⟨x,2,none⟩=some c2∧W.cell? ⟨x,3,none⟩=some c3∧W.cell? ⟨x,4,none⟩=some c4∧W.cell? ⟨x,5,none⟩=some c5∧W.cell? ⟨x,6,none⟩=some c6∧W.cell? ⟨y,0,none⟩=some d0∧W.cell? ⟨y,1,none⟩=some d1∧W.cell? ⟨y,2,none⟩=some d2∧W.cell? ⟨y,3,none⟩=some d3∧W.cell? ⟨y,4,none⟩=some d4∧W.cell? ⟨y,5,none⟩=some d5∧W.cell? ⟨y,6,none⟩=some d6:=h.1
theorem K7.below {w W:World} {x y:Nat} {c0 c1 c2 c3 c4 c5 c6 d0 d1 d2 d3 d4 d5 d6:Value} (h:K7 w x y c0 c1 c2 c3 c4 c5 c6 d0 d1 d2 d3 d4 d5 d6 W):Below w.heap.size w W:=h.2.2.2
theorem K7.next {w W W':World} {x y:Nat} {c0 c1 c2 c3 c4 c5 c6 d0 d1 d2 d3 d4 d5 d6:Value} (h:K7 w x y c0 c1 c2 c3 c4 c5 c6 d0 d1 d2 d3 d4 d5 d6 W) (hb:Below W.heap.size W W'):K7 w x y c0 c1 c2 c3 c4 c5 c6 d0 d1 d2 d3 d4 d5 d6 W':=by
 obtain ⟨⟨g0,g1,g2,g3,g4,g5,g6,f0,f1,f2,f3,f4,f5,f6⟩,hx,hy,hB⟩:=h
 exact ⟨⟨(hb.cell (p:=⟨x,_,none⟩) hx).trans g0,(hb.cell (p:=⟨x,_,none⟩) hx).trans g1,(hb.cell (p:=⟨x,_,none⟩) hx).trans g2,(hb.cell (p:=⟨x,_,none⟩) hx).trans g3,(hb.cell (p:=⟨x,_,none⟩) hx).trans g4,(hb.cell (p:=⟨x,_,none⟩) hx).trans g5,(hb.cell (p:=⟨x,_,none⟩) hx).trans g6,(hb.cell (p:=⟨y,_,none⟩) hy).trans f0,(hb.cell (p:=⟨y,_,none⟩) hy).trans f1,(hb.cell (p:=⟨y,_,none⟩) hy).trans f2,(hb.cell (p:=⟨y,_,none⟩) hy).trans f3,(hb.cell (p:=⟨y,_,none⟩) hy).trans f4,(hb.cell (p:=⟨y,_,none⟩) hy).trans f5,(hb.cell (p:=⟨y,_,none⟩) hy).trans f6⟩,Nat.lt_of_lt_of_le hx hb.size,Nat.lt_of_lt_of_le hy hb.size,hB.trans (hb.mono hB.size)⟩
theorem K7.start (w:World) (c0 c1 c2 c3 c4 c5 c6 d0 d1 d2 d3 d4 d5 d6:Value) (t:TypeId):K7 w (w.heap.size) (w.heap.size+1) c0 c1 c2 c3 c4 c5 c6 d0 d1 d2 d3 d4 d5 d6 ((w.alloc (.cells #[c0,c1,c2,c3,c4,c5,c6] t)).alloc (.cells #[d0,d1,d2,d3,d4,d5,d6] t)).drew:=by
 have k0:((w.alloc (.cells #[c0,c1,c2,c3,c4,c5,c6] t)).alloc (.cells #[d0,d1,d2,d3,d4,d5,d6] t)).drew.heap[w.heap.size]? = some (.cells #[c0,c1,c2,c3,c4,c5,c6] t):=by
  show ((w.alloc (.cells #[c0,c1,c2,c3,c4,c5,c6] t)).alloc (.cells #[d0,d1,d2,d3,d4,d5,d6] t)).heap[w.heap.size]? = _
  rw [Below.heap_alloc _ _ _ (by simp)]
  show (w.heap.push _)[w.heap.size]? = _;simp
 have k1:((w.alloc (.cells #[c0,c1,c2,c3,c4,c5,c6] t)).alloc (.cells #[d0,d1,d2,d3,d4,d5,d6] t)).drew.heap[w.heap.size+1]? = some (.cells #[d0,d1,d2,d3,d4,d5,d6] t):=by
  show ((w.heap.push _).push _)[w.heap.size+1]? = _
  rw [Array.getElem?_push,if_pos (by simp)]
 refine ⟨⟨?_,?_,?_,?_,?_,?_,?_,?_,?_,?_,?_,?_,?_,?_⟩,?_,?_,Below.drew (((Below.refl _ _).alloc (Nat.le_refl _) _).alloc (by simp) _)⟩
 all_goals first|(simp only [World.cell?];first|(rw [k0];rfl)|(rw [k1];rfl))|(show _ < ((w.heap.push _).push _).size;simp;done)|(show _ < ((w.heap.push _).push _).size;simp;omega)
theorem K7.start2 (w:World) (c0 c1 c2 c3 c4 c5 c6 d0 d1 d2 d3 d4 d5 d6:Value) (t:TypeId):K7 w (w.heap.size+1) (w.heap.size) c0 c1 c2 c3 c4 c5 c6 d0 d1 d2 d3 d4 d5 d6 ((w.alloc (.cells #[d0,d1,d2,d3,d4,d5,d6] t)).alloc (.cells #[c0,c1,c2,c3,c4,c5,c6] t)).drew:=by
 have k0:((w.alloc (.cells #[d0,d1,d2,d3,d4,d5,d6] t)).alloc (.cells #[c0,c1,c2,c3,c4,c5,c6] t)).drew.heap[w.heap.size]? = some (.cells #[d0,d1,d2,d3,d4,d5,d6] t):=by
  show ((w.alloc (.cells #[d0,d1,d2,d3,d4,d5,d6] t)).alloc (.cells #[c0,c1,c2,c3,c4,c5,c6] t)).heap[w.heap.size]? = _
  rw [Below.heap_alloc _ _ _ (by simp)]
  show (w.heap.push _)[w.heap.size]? = _;simp
 have k1:((w.alloc (.cells #[d0,d1,d2,d3,d4,d5,d6] t)).alloc (.cells #[c0,c1,c2,c3,c4,c5,c6] t)).drew.heap[w.heap.size+1]? = some (.cells #[c0,c1,c2,c3,c4,c5,c6] t):=by
  show ((w.heap.push _).push _)[w.heap.size+1]? = _
  rw [Array.getElem?_push,if_pos (by simp)]
 refine ⟨⟨?_,?_,?_,?_,?_,?_,?_,?_,?_,?_,?_,?_,?_,?_⟩,?_,?_,Below.drew (((Below.refl _ _).alloc (Nat.le_refl _) _).alloc (by simp) _)⟩
 all_goals first|(simp only [World.cell?];first|(rw [k0];rfl)|(rw [k1];rfl))|(show _ < ((w.heap.push _).push _).size;simp;done)|(show _ < ((w.heap.push _).push _).size;simp;omega)
def Yne (l:Vy):Prop:=∀ (A A':Option Addr) (c c':Nat) (w:World) (B:Nat),B≤w.heap.size→l.len≤9223372036854775807→Xp w (fun b=>b < B) (Z7 l) A→Xp w (fun b=>b < B) (Z7 l) A' →
 Calls Tryz.prog 113 #[.slice A l.len c,.slice A' l.len c'] w fun e w'=>e=.returned (.bool true)∧Below w.heap.size w w'
theorem Ycg (N:Nat) (H:∀ l,szL l≤N→Yne l):∀ l,szL l≤N+1→Yne l:=by
 intro l hN A A' c c' w B hB hl h1 h2
 have H1:=Hd h1
 have H2:=Hd h2
 have HS:=Hd H
 have HB0:=Hd hB
 clear h1 h2 hB H
 have e0:((l.len:Int) != (l.len:Int))=false:=by simp
 go_enter Tryz.func113,Tryz.ntmps113
 go_wp2_with fail
 go_loopg [5] l.len (fun g i wx=>∃ q:Nat,q+g=l.len∧i=.int .i64 q∧Below w.heap.size w wx)
 case atStart=>exact ⟨0,by omega,rfl,Below.refl _ _⟩
 case round =>
  obtain ⟨q,hq,rfl,hb⟩:=hrel
  have HBB:=Hd hb
  clear hb
  cases gk with
  | zero =>
    obtain rfl:q=l.len:=by omega
    go_wp2_with fail
    go_ret
    exact ⟨rfl,HBB.out⟩
  | succ g =>
    have hqn:q < l.len:=by omega
    have hqn':(q:Int) < (l.len:Int):=by omega
    obtain ⟨⟨k,a,n,gs,ds,on,ss⟩,hv⟩:=Vy.get_lt hqn
    have hsz:=Zyt hv
    rw [szS] at hsz
    obtain ⟨b,o,Ag,kg,Ad,kd,As,ks,rfl,hblt,⟨g0,g1,g2,g3,g4,g5,g6⟩,S1⟩:=Yhr (Xp.below (HBB.out.mono HB0.out) H1.out) hv
    obtain ⟨b',o',Ag',kg',Ad',kd',As',ks',rfl,hblt',⟨f0,f1,f2,f3,f4,f5,f6⟩,S2⟩:=Yhr (Xp.below (HBB.out.mono HB0.out) H2.out) hv
    have S1:=Hd S1
    have S2:=Hd S2
    have HBX:=Hd (Nat.le_trans HB0.out HBB.out.size)
    have eK:(k != k)=false:=by simp
    have eA:(a.toList != a.toList)=false:=by simp
    have eN:(n.toList != n.toList)=false:=by simp
    have eO:(on.toList != on.toList)=false:=by simp
    have hw1:b < wr.heap.size:=Nat.lt_of_lt_of_le hblt (Nat.le_trans HB0.out HBB.out.size)
    have hw2:b' < wr.heap.size:=Nat.lt_of_lt_of_le hblt' (Nat.le_trans HB0.out HBB.out.size)
    clear hv hblt hblt'
    go_wp2_with fail
    go_region
    · have hW0:=Hd (K7.start wr (.int .i64 k) (.string a) (.string n) (.slice Ag gs.len kg) (.slice Ad ds.length kd) (.string on) (.slice As ss.len ks) (.int .i64 k) (.string a) (.string n) (.slice Ag' gs.len kg') (.slice Ad' ds.length kd') (.string on) (.slice As' ss.len ks') 72)
      generalize ((wr.alloc (.cells #[.int .i64 k,.string a,.string n,.slice Ag gs.len kg,.slice Ad ds.length kd,.string on,.slice As ss.len ks] 72)).alloc (.cells #[.int .i64 k,.string a,.string n,.slice Ag' gs.len kg',.slice Ad' ds.length kd',.string on,.slice As' ss.len ks'] 72)).drew=W at hW0 ⊢
      have hc0:=hW0.out.cells
      obtain ⟨g0,g1,g2,g3,g4,g5,g6,f0,f1,f2,f3,f4,f5,f6⟩:=hc0
      have hB1:=hW0.out.below
      go_wp2_with fail
      refine (Qm gs Ag Ag' kg kg' _ B (Nat.le_trans HB0.out (Nat.le_trans HBB.out.size hB1.size)) S1.out.1 (Gn.below (hB1.mono HBX.out) S1.out).2.2.2.1 (Gn.below (hB1.mono HBX.out) S2.out).2.2.2.1).mono ?_
      rintro e w2 ⟨rfl,hb2⟩
      have hW2:=Hd (K7.next hW0.out hb2)
      clear g0 g1 g2 g3 g4 g5 g6 f0 f1 f2 f3 f4 f5 f6 hW0 hB1 hb2
      have hc0:=hW2.out.cells
      obtain ⟨g0,g1,g2,g3,g4,g5,g6,f0,f1,f2,f3,f4,f5,f6⟩:=hc0
      have hB1:=hW2.out.below
      go_wp2_with fail
      refine (Do ds Ad Ad' kd kd' _ B (Nat.le_trans HB0.out (Nat.le_trans HBB.out.size hB1.size)) S1.out.2.1 (Gn.below (hB1.mono HBX.out) S1.out).2.2.2.2.1 (Gn.below (hB1.mono HBX.out) S2.out).2.2.2.2.1).mono ?_
      rintro e w3 ⟨rfl,hb3⟩
      have hW3:=Hd (K7.next hW2.out hb3)
      clear g0 g1 g2 g3 g4 g5 g6 f0 f1 f2 f3 f4 f5 f6 hW2 hB1 hb3
      have hc0:=hW3.out.cells
      obtain ⟨g0,g1,g2,g3,g4,g5,g6,f0,f1,f2,f3,f4,f5,f6⟩:=hc0
      have hB1:=hW3.out.below
      go_wp2_with fail
      refine (HS.out ss (by omega) As As' ks ks' _ B (Nat.le_trans HB0.out (Nat.le_trans HBB.out.size hB1.size)) S1.out.2.2.1 (Gn.below (hB1.mono HBX.out) S1.out).2.2.2.2.2 (Gn.below (hB1.mono HBX.out) S2.out).2.2.2.2.2).mono ?_
      rintro e w4 ⟨rfl,hb4⟩
      have hW4:=Hd (K7.next hW3.out hb4).below
      clear g0 g1 g2 g3 g4 g5 g6 f0 f1 f2 f3 f4 f5 f6 hW3 hB1 hb4
      go_wp2_with fail
      go_roundg g
      case measure=>omega
      case rel=>exact ⟨q+1,by omega,by go_num,HBB.out.trans (hW4.out.mono HBB.out.size)⟩
    · have hW0:=Hd (K7.start2 wr (.int .i64 k) (.string a) (.string n) (.slice Ag gs.len kg) (.slice Ad ds.length kd) (.string on) (.slice As ss.len ks) (.int .i64 k) (.string a) (.string n) (.slice Ag' gs.len kg') (.slice Ad' ds.length kd') (.string on) (.slice As' ss.len ks') 72)
      generalize ((wr.alloc (.cells #[.int .i64 k,.string a,.string n,.slice Ag' gs.len kg',.slice Ad' ds.length kd',.string on,.slice As' ss.len ks'] 72)).alloc (.cells #[.int .i64 k,.string a,.string n,.slice Ag gs.len kg,.slice Ad ds.length kd,.string on,.slice As ss.len ks] 72)).drew=W at hW0 ⊢
      have hc0:=hW0.out.cells
      obtain ⟨g0,g1,g2,g3,g4,g5,g6,f0,f1,f2,f3,f4,f5,f6⟩:=hc0
      have hB1:=hW0.out.below
      go_wp2_with fail
      refine (Qm gs Ag Ag' kg kg' _ B (Nat.le_trans HB0.out (Nat.le_trans HBB.out.size hB1.size)) S1.out.1 (Gn.below (hB1.mono HBX.out) S1.out).2.2.2.1 (Gn.below (hB1.mono HBX.out) S2.out).2.2.2.1).mono ?_
      rintro e w2 ⟨rfl,hb2⟩
      have hW2:=Hd (K7.next hW0.out hb2)
      clear g0 g1 g2 g3 g4 g5 g6 f0 f1 f2 f3 f4 f5 f6 hW0 hB1 hb2
      have hc0:=hW2.out.cells
      obtain ⟨g0,g1,g2,g3,g4,g5,g6,f0,f1,f2,f3,f4,f5,f6⟩:=hc0
      have hB1:=hW2.out.below
      go_wp2_with fail
      refine (Do ds Ad Ad' kd kd' _ B (Nat.le_trans HB0.out (Nat.le_trans HBB.out.size hB1.size)) S1.out.2.1 (Gn.below (hB1.mono HBX.out) S1.out).2.2.2.2.1 (Gn.below (hB1.mono HBX.out) S2.out).2.2.2.2.1).mono ?_
      rintro e w3 ⟨rfl,hb3⟩
      have hW3:=Hd (K7.next hW2.out hb3)
      clear g0 g1 g2 g3 g4 g5 g6 f0 f1 f2 f3 f4 f5 f6 hW2 hB1 hb3
      have hc0:=hW3.out.cells
      obtain ⟨g0,g1,g2,g3,g4,g5,g6,f0,f1,f2,f3,f4,f5,f6⟩:=hc0
      have hB1:=hW3.out.below
      go_wp2_with fail
      refine (HS.out ss (by omega) As As' ks ks' _ B (Nat.le_trans HB0.out (Nat.le_trans HBB.out.size hB1.size)) S1.out.2.2.1 (Gn.below (hB1.mono HBX.out) S1.out).2.2.2.2.2 (Gn.below (hB1.mono HBX.out) S2.out).2.2.2.2.2).mono ?_
      rintro e w4 ⟨rfl,hb4⟩
      have hW4:=Hd (K7.next hW3.out hb4).below
      clear g0 g1 g2 g3 g4 g5 g6 f0 f1 f2 f3 f4 f5 f6 hW3 hB1 hb4
      go_wp2_with fail
      go_roundg g
      case measure=>omega
      case rel=>exact ⟨q+1,by omega,by go_num,HBB.out.trans (hW4.out.mono HBB.out.size)⟩
theorem T0:∀ N l,szL l≤N→Yne l
 | 0,l,h=>by cases l<;>(rw [szL] at h;omega)
 | N+1,l,h=>Ycg N (T0 N) l h
theorem Zx3 (l:Vy):Yne l:=T0 _ l (Nat.le_refl _)
def BK4 (w:World) (x y:Nat) (c0 c1 c2 c3 d0 d1 d2 d3:Value) (W:World):Prop:=
 (W.cell? ⟨x,0,none⟩=some c0∧W.cell? ⟨x,1,none⟩=some c1∧W.cell? ⟨x,2,none⟩=some c2∧W.cell? ⟨x,3,none⟩=some c3∧W.cell? ⟨y,0,none⟩=some d0∧W.cell? ⟨y,1,none⟩=some d1∧W.cell? ⟨y,2,none⟩=some d2∧W.cell? ⟨y,3,none⟩=some d3)∧x < W.heap.size∧y < W.heap.size∧Below w.heap.size w W
theorem BK4.cells {w W:World} {x y:Nat} {c0 c1 c2 c3 d0 d1 d2 d3:Value} (h:BK4 w x y c0 c1 c2 c3 d0 d1 d2 d3 W):W.cell? ⟨x,0,none⟩=some c0∧W.cell? ⟨x,1,none⟩=some c1∧W.cell? ⟨x,2,none⟩=some c2∧W.cell? ⟨x,3,none⟩=some c3∧W.cell? ⟨y,0,none⟩=some d0∧W.cell? ⟨y,1,none⟩=some d1∧W.cell? ⟨y,2,none⟩=some d2∧W.cell? ⟨y,3,none⟩=some d3:=h.1
theorem BK4.below {w W:World} {x y:Nat} {c0 c1 c2 c3 d0 d1 d2 d3:Value} (h:BK4 w x y c0 c1 c2 c3 d0 d1 d2 d3 W):Below w.heap.size w W:=h.2.2.2
theorem BK4.next {w W W':World} {x y:Nat} {c0 c1 c2 c3 d0 d1 d2 d3:Value} (h:BK4 w x y c0 c1 c2 c3 d0 d1 d2 d3 W) (hb:Below W.heap.size W W'):BK4 w x y c0 c1 c2 c3 d0 d1 d2 d3 W':=by
 obtain ⟨⟨g0,g1,g2,g3,f0,f1,f2,f3⟩,hx,hy,hB⟩:=h
 exact ⟨⟨(hb.cell (p:=⟨x,_,none⟩) hx).trans g0,(hb.cell (p:=⟨x,_,none⟩) hx).trans g1,(hb.cell (p:=⟨x,_,none⟩) hx).trans g2,(hb.cell (p:=⟨x,_,none⟩) hx).trans g3,(hb.cell (p:=⟨y,_,none⟩) hy).trans f0,(hb.cell (p:=⟨y,_,none⟩) hy).trans f1,(hb.cell (p:=⟨y,_,none⟩) hy).trans f2,(hb.cell (p:=⟨y,_,none⟩) hy).trans f3⟩,Nat.lt_of_lt_of_le hx hb.size,Nat.lt_of_lt_of_le hy hb.size,hB.trans (hb.mono hB.size)⟩
theorem BK4.start (w:World) (c0 c1 c2 c3 d0 d1 d2 d3:Value) (t:TypeId):BK4 w (w.heap.size) (w.heap.size+1) c0 c1 c2 c3 d0 d1 d2 d3 ((w.alloc (.cells #[c0,c1,c2,c3] t)).alloc (.cells #[d0,d1,d2,d3] t)):=by
 have k0:((w.alloc (.cells #[c0,c1,c2,c3] t)).alloc (.cells #[d0,d1,d2,d3] t)).heap[w.heap.size]? = some (.cells #[c0,c1,c2,c3] t):=by
  show ((w.alloc (.cells #[c0,c1,c2,c3] t)).alloc (.cells #[d0,d1,d2,d3] t)).heap[w.heap.size]? = _
  rw [Below.heap_alloc _ _ _ (by simp)]
  show (w.heap.push _)[w.heap.size]? = _;simp
 have k1:((w.alloc (.cells #[c0,c1,c2,c3] t)).alloc (.cells #[d0,d1,d2,d3] t)).heap[w.heap.size+1]? = some (.cells #[d0,d1,d2,d3] t):=by
  show ((w.heap.push _).push _)[w.heap.size+1]? = _
  rw [Array.getElem?_push,if_pos (by simp)]
 refine ⟨⟨?_,?_,?_,?_,?_,?_,?_,?_⟩,?_,?_,((Below.refl _ _).alloc (Nat.le_refl _) _).alloc (by simp) _⟩
 all_goals first|(simp only [World.cell?];first|(rw [k0];rfl)|(rw [k1];rfl))|(show _ < ((w.heap.push _).push _).size;simp;done)|(show _ < ((w.heap.push _).push _).size;simp;omega)
def In (w:World) (B:Nat) (d:List Lk) (s:Vy) (Ad As:Option Addr):Prop:=
 d.length≤9223372036854775807∧s.len≤9223372036854775807∧Xp w (fun b=>b < B) (Z5 Xc d) Ad∧Xp w (fun b=>b < B) (Z7 s) As
theorem In.below {w w':World} {B:Nat} (hb:Below B w w') {d:List Lk} {s:Vy} {Ad As:Option Addr} (h:In w B d s Ad As):In w' B d s Ad As:=
 ⟨h.1,h.2.1,Xp.below hb h.2.2.1,Xp.below hb h.2.2.2⟩
theorem Zys (a n:ByteArray) (ds:List Lk) (ss:Vy) (Ad Ad' As As':Option Addr) (kd kd' ks ks':Nat) (w:World) (B:Nat) (hB:B≤w.heap.size) (h1:In w B ds ss Ad As) (h2:In w B ds ss Ad' As') :
  Calls Tryz.prog 46 #[.agg #[.string a,.string n,.slice Ad ds.length kd,.slice As ss.len ks],.agg #[.string a,.string n,.slice Ad' ds.length kd',.slice As' ss.len ks']] w fun e w'=>e=.returned (.bool true)∧Below w.heap.size w w':=by
 have S1:=Hd h1
 have S2:=Hd h2
 have HB0:=Hd hB
 clear h1 h2 hB
 have eA:(a.toList == a.toList)=true:=by simp
 have eN:(n.toList == n.toList)=true:=by simp
 go_enter Tryz.func46,Tryz.ntmps46
 have hW0:=Hd (BK4.start w (.string a) (.string n) (.slice Ad ds.length kd) (.slice As ss.len ks) (.string a) (.string n) (.slice Ad' ds.length kd') (.slice As' ss.len ks') 87)
 go_wp2_with fail
 have hB1:=hW0.out.below
 refine (Do ds Ad Ad' kd kd' _ B (Nat.le_trans HB0.out hB1.size) S1.out.1 (In.below (hB1.mono HB0.out) S1.out).2.2.1 (In.below (hB1.mono HB0.out) S2.out).2.2.1).mono ?_
 rintro e w3 ⟨rfl,hb3⟩
 have hW3:=Hd (BK4.next hW0.out hb3)
 clear hW0 hB1 hb3
 have hc0:=hW3.out.cells
 obtain ⟨g0,g1,g2,g3,f0,f1,f2,f3⟩:=hc0
 have hB1:=hW3.out.below
 go_wp2_with fail
 refine (Zx3 ss As As' ks ks' _ B (Nat.le_trans HB0.out hB1.size) S1.out.2.1 (In.below (hB1.mono HB0.out) S1.out).2.2.2 (In.below (hB1.mono HB0.out) S2.out).2.2.2).mono ?_
 rintro e w4 ⟨rfl,hb4⟩
 have hW4:=Hd (BK4.next hW3.out hb4).below
 clear g0 g1 g2 g3 f0 f1 f2 f3 hW3 hB1 hb4
 go_wp2_with fail
 go_ret
 exact ⟨rfl,hW4.out⟩
end Go.Proofs.YtpkmbhnikilihaaGreatDoor
