/- The document's reader of documents: its states (what is left, or what was wrong first), and what its functions come to. -/
import Derived.Test.YtkmloefbkgcbkaaGreatDoorSr20
import Derived.WalkSmall
set_option maxRecDepth 100000
namespace Go.Proofs.YtkmloefbkgcbkaaGreatDoor
open Go.RowKit
abbrev StP:=Except Int (List Tok)
def Zb {α:Type} (p:Rdr α):StP→Except Int (α × List Tok)
 | .ok ts=>p ts
 | .error y=>.error y
def Xb {α:Type} : Except Int (α × List Tok)→StP
 | .ok a=>.ok a.2
 | .error y=>.error y
def F1 {α β:Type} (f:α→β):Except Int (α × List Tok)→Except Int (β × List Tok)
 | .ok a=>.ok (f a.1,a.2)
 | .error y=>.error y
theorem Y4 {α β:Type} (f:α→β) (R:Except Int (α × List Tok)):Xb (F1 f R)=Xb R:=by cases R<;>rfl
theorem Vg {α β:Type} {f:α→β} {R:Except Int (α × List Tok)} {b:β} {ts:List Tok} (h:F1 f R=.ok (b,ts)):∃ a,R=.ok (a,ts)∧b=f a:=by
 cases R with
 | error y=>cases h
 | ok a =>
   have:=Except.ok.inj h;obtain ⟨h1,h2⟩:=Prod.mk.inj this;exact ⟨a.1,by rw [← h2],h1.symm⟩
def isS (k:Int) (s:ByteArray):StP→Bool
 | .ok ts=>atB k s ts
 | .error _=>false
def Zq9:StP→Bool
 | .ok ts=>Ymc ts
 | .error _=>false
def Mp (x:Int):StP→StP
 | .ok _=>.error x
 | .error y=>.error y
def tkS (s:ByteArray):StP→StP
 | .ok ts=>if atB 1 s ts=true then .ok ts.tail else .error 2
 | .error y=>.error y
def nmS:StP→StP
 | .ok ts=>(match Zg ts with|some a=>.ok a.2|none=>.error 2)
 | .error y=>.error y
def nmV:StP→ByteArray
 | .ok ts=>(match Zg ts with|some a=>a.1|none=>eB)
 | .error _=>eB
def Bb (d:Nat) (s:ByteArray) (S:StP):StP:=if isS 1 s S=true∧d=16 then .error 4 else tkS s S
def X3:StP→Tok
 | .ok (t :: _)=>t
 | _=>(0,⟨#[]⟩)
theorem Zjn (k:Int) (s:ByteArray) (S:StP) (hk:k ≠ 0):isS k s S=((X3 S).1 == k && ((X3 S).2.toList == s.toList)):=by
 rcases S with y|ts
 · have:((0:Int) == k)=false:=by simpa using fun h=>hk h.symm
   show false=((0:Int) == k && _);rw [this];rfl
 · rcases ts with _|⟨t,ts⟩
   · have:((0:Int) == k)=false:=by simpa using fun h=>hk h.symm
     show false=((0:Int) == k && _);rw [this];rfl
   · rfl
theorem Zze (S:StP):Zq9 S=((X3 S).1 == 2):=by
 rcases S with y|ts
 · rfl
 · rcases ts with _|⟨t,ts⟩<;>rfl
theorem Gu {S:StP} (h:Zq9 S=true):∃ t ts,S=.ok (t :: ts)∧nmV S=t.2∧nmS S=.ok ts:=by
 rcases S with y|ts
 · cases h
 · rcases ts with _|⟨t,ts⟩
   · cases h
   · have ht:t.1=2:=by simpa [Zq9,Ymc] using h
     refine ⟨t,ts,rfl,?_,?_⟩
     · simp only [nmV,Xu,if_pos ht]
     · simp only [nmS,Xu,if_pos ht]
theorem Ybm {S:StP} (h:Zq9 S=false):nmV S=eB∧nmS S=Mp 2 S:=by
 rcases S with y|ts
 · exact ⟨rfl,rfl⟩
 · rcases ts with _|⟨t,ts⟩
   · exact ⟨rfl,rfl⟩
   · have ht : ¬ t.1=2:=by simpa [Zq9,Ymc] using h
     refine ⟨?_,?_⟩
     · simp only [nmV,Xu,if_neg ht]
     · simp only [nmS,Xu,if_neg ht,Mp]
theorem Xr {s:ByteArray} {S:StP} (h:isS 1 s S=true):∃ t ts,S=.ok (t :: ts)∧tkS s S=.ok ts:=by
 rcases S with y|ts
 · cases h
 · rcases ts with _|⟨t,ts⟩
   · cases h
   · have h1:atB 1 s (t :: ts)=true:=h
     exact ⟨t,ts,rfl,by show (if atB 1 s (t :: ts)=true then _ else _)=_;rw [if_pos h1];rfl⟩
theorem Zzc {s:ByteArray} {S:StP} (h:isS 1 s S=false):tkS s S=Mp 2 S:=by
 rcases S with y|ts
 · rfl
 · have h' : ¬ atB 1 s ts=true:=by
    have:atB 1 s ts=false:=h;rw [this];simp
   show (if atB 1 s ts=true then _ else _)=_;rw [if_neg h'];rfl
theorem Yn4 (fx:Bool) (d:Nat) (S:StP):Zb (Co fx d) S=F1 (fun v=>(nmV S,v)) (Zb (Im fx d) (tkS Xj (nmS S))):=by
 rcases S with y|ts
 · rfl
 · show Co fx d ts=_
   rw [Yfg];unfold nmR;simp only [nmS,nmV]
   cases hn:Zg ts with
   | none=>rfl
   | some a =>
     obtain ⟨nm,r⟩:=a;simp only [ifR,tkS]
     cases hc:atB 1 Xj r with
     | false=>rfl
     | true =>
       simp only [if_true,Ym,Zb,Gk]
       cases Im fx d r.tail<;>rfl
def Cc {α ρ:Type} (one:Rdr α) (add:ρ→α→ρ) (e:ByteArray) (acc:ρ) (emp:Bool) (S:StP):Except Int (ρ × List Tok):=
 if emp=true then Zb (N7 one add e acc) S else Zb (ifR 1 e (Gk acc) (N7 one add e acc)) S
theorem Vs {α ρ:Type} (one:Rdr α) (add:ρ→α→ρ) (e:ByteArray) (acc:ρ) (emp:Bool) (y:Int):Cc one add e acc emp (.error y)=.error y:=by unfold Cc;split<;>rfl
theorem Ah {α ρ:Type} {one:Rdr α} {add:ρ→α→ρ} {e:ByteArray} {acc:ρ} {S:StP} (h:isS 1 e S=true):Cc one add e acc false S=F1 (fun _=>acc) (Zb (fun ts=>.ok ((),ts)) (tkS e S)):=by
 obtain ⟨t,ts,rfl,h2⟩:=Xr h;have h1:atB 1 e (t :: ts)=true:=h;unfold Cc;rw [if_neg (by simp),h2];simp only [Zb,ifR,h1,if_true,Gk,F1,List.tail_cons]
theorem U2 {α ρ:Type} {one:Rdr α} {add:ρ→α→ρ} {e:ByteArray} (H:Str one) {acc:ρ} {emp:Bool} {S:StP} (h:emp=true∨isS 1 e S=false) :
   Cc one add e acc emp S=(match Zb one S with | .ok a=>Cc one add e (add acc a.1) false (.ok a.2) | .error y=>.error y):=by
 rcases S with y|ts
 · rw [Vs];rfl
 · have hs:Cc one add e acc emp (.ok ts)=N7 one add e acc ts:=by
    unfold Cc;rcases h with h|h
    · rw [if_pos h];rfl
    · have h' : ¬ atB 1 e ts=true:=by
        have:atB 1 e ts=false:=h;rw [this];simp
      by_cases he:emp=true
      · rw [if_pos he];rfl
      · rw [if_neg he]
        simp only [Zb,ifR];rw [if_neg h']
   rw [hs,Ybt H];simp only [Ym,Zb]
   cases one ts with
   | error y=>rfl
   | ok a=>rfl
def itS (fx:Bool) (d:Nat) (l:VL) (S:StP):Except Int (VL × List Tok):=Zb (Gi fx d l) S
theorem Ym4 {fx:Bool} {d:Nat} {l:VL} {S:StP} (h:isS 1 cB S=false):itS fx d l S=(match Zb (Im fx d) S with | .ok a=>itS fx d (l.snoc a.1) (.ok a.2) | .error y=>.error y):=by
 rcases S with y|ts
 · rfl
 · have h' : ¬ atB 1 cB ts=true:=by
    have:atB 1 cB ts=false:=h;rw [this];simp
   show Gi fx d l ts=_;rw [Dy];simp only [ifR];rw [if_neg h'];simp only [Ym,Zb]
   cases Im fx d ts<;>rfl
theorem Ypm {fx:Bool} {d:Nat} {l:VL} {S:StP} (h:isS 1 cB S=true):itS fx d l S=F1 (fun _=>l) (Zb (fun ts=>.ok ((),ts)) (tkS cB S)):=by
 obtain ⟨t,ts,rfl,h2⟩:=Xr h;have h1:atB 1 cB (t :: ts)=true:=h;rw [h2]
 show Gi fx d l (t :: ts)=_;rw [Dy];simp only [ifR,h1,if_true,Gk,F1,Zb,List.tail_cons]
def msS (fx:Bool) (d:Nat) (l:VM) (S:StP):Except Int (VM × List Tok):=Zb (Mz fx d l) S
theorem Ykv {fx:Bool} {d:Nat} {l:VM} {S:StP} (h:isS 1 cmB S=false):msS fx d l S=(match Zb (Co fx d) S with | .ok a=>msS fx d (l.snoc a.1.1 a.1.2) (.ok a.2) | .error y=>.error y):=by
 rcases S with y|ts
 · rfl
 · have h' : ¬ atB 1 cmB ts=true:=by
    have:atB 1 cmB ts=false:=h;rw [this];simp
   show Mz fx d l ts=_;rw [Sg];simp only [ifR];rw [if_neg h'];simp only [Ym,Zb]
   cases Co fx d ts<;>rfl
theorem Ypt {fx:Bool} {d:Nat} {l:VM} {S:StP} (h:isS 1 cmB S=true):msS fx d l S=F1 (fun _=>l) (Zb (fun ts=>.ok ((),ts)) (tkS cmB S)):=by
 obtain ⟨t,ts,rfl,h2⟩:=Xr h;have h1:atB 1 cmB (t :: ts)=true:=h;rw [h2]
 show Mz fx d l (t :: ts)=_;rw [Sg];simp only [ifR,h1,if_true,Gk,F1,Zb,List.tail_cons]
theorem Yn7 {fx:Bool} {d:Nat} {S:StP} (h:isS 1 opB S=false):Zb (U8 fx d) S=F1 (fun _=>.nil) (Zb (fun ts=>.ok ((),ts)) S):=by
 rcases S with y|ts
 · rfl
 · have h' : ¬ atB 1 opB ts=true:=by
    have:atB 1 opB ts=false:=h;rw [this];simp
   show U8 fx d ts=_;rw [Rm];simp only [ifR];rw [if_neg h']
   rfl
theorem Yjp {fx:Bool} {d:Nat} {S:StP} (h:isS 1 opB S=true):Zb (U8 fx d) S=Cc (Co fx d) Zzi cpB .nil true (tkS opB S):=by
 obtain ⟨t,ts,rfl,h2⟩:=Xr h;have h1:atB 1 opB (t :: ts)=true:=h;rw [h2]
 show U8 fx d (t :: ts)=_;rw [Rm];simp only [ifR,h1,if_true,List.tail_cons]
 rfl
def dsS (fx:Bool) (d:Nat) (l:List Wg) (S:StP):Except Int (List Wg × List Tok):=Zb (Zqh fx d l) S
theorem Yox {fx:Bool} {d:Nat} {l:List Wg} {S:StP} (h:isS 1 Zzg S=false):dsS fx d l S=F1 (fun _=>l) (Zb (fun ts=>.ok ((),ts)) S):=by
 rcases S with y|ts
 · rfl
 · have h' : ¬ atB 1 Zzg ts=true:=by
    have:atB 1 Zzg ts=false:=h;rw [this];simp
   show Zqh fx d l ts=_;rw [S8];simp only [ifR];rw [if_neg h']
   rfl
theorem Yl8 {fx:Bool} {d:Nat} {l:List Wg} {S:StP} (h:isS 1 Zzg S=true):dsS fx d l S=(match Zb (U8 fx d) (nmS (tkS Zzg S)) with | .ok a=>dsS fx d (l++[(nmV (tkS Zzg S),a.1)]) (.ok a.2) | .error y=>.error y):=by
 obtain ⟨t,ts,rfl,h2⟩:=Xr h;have h1:atB 1 Zzg (t :: ts)=true:=h;rw [h2]
 show Zqh fx d l (t :: ts)=_;rw [S8];simp only [ifR,h1,if_true,List.tail_cons,nmR,nmS,nmV]
 cases hn:Zg ts with
 | none=>rfl
 | some a =>
   simp only [Ym,Zb]
   cases U8 fx d a.2<;>rfl
def Ul {α:Type} (z:α):Except Int (α × List Tok)→α
 | .ok a=>a.1
 | .error _=>z
theorem Of {α:Type} {R:Except Int (α × List Tok)} {ts:List Tok} (h:Xb R=.ok ts):∃ a,R=.ok (a,ts)∧∀ z,Ul z R=a:=by
 cases R with
 | error y=>cases h
 | ok a=>exact ⟨a.1,by rw [← Except.ok.inj h],fun _=>rfl⟩
theorem Cu {α:Type} {p:Rdr α} {S:StP} {a:α} {ts:List Tok} (h:Zb p S=.ok (a,ts)):∃ us,S=.ok us∧p us=.ok (a,ts):=by
 rcases S with y|us
 · cases h
 · exact ⟨us,rfl,h⟩
theorem Wd {S:StP} {s:ByteArray} (h:isS 2 s S=true):Zq9 S=true:=by
 rcases S with y|ts
 · cases h
 · rcases ts with _|⟨t,ts⟩
   · cases h
   · have h:(t.1 == 2 && (t.2.toList == s.toList))=true:=h
     rw [Bool.and_eq_true] at h;exact h.1
theorem Ynh (d:Nat) (S:StP) (h:isS 1 eqB (Xb (Zb (Zj 4) (tkS Xj (nmS (tkS J5 S)))))=true):Zb (Yi2 d) S =
     F1 (fun v=>⟨nmV (tkS J5 S),(Ul (eB,0,0) (Zb (Zj 4) (tkS Xj (nmS (tkS J5 S))))).1,(Ul (eB,0,0) (Zb (Zj 4) (tkS Xj (nmS (tkS J5 S))))).2.1,(Ul (eB,0,0) (Zb (Zj 4) (tkS Xj (nmS (tkS J5 S))))).2.2,true,v⟩) (Zb (Im true d) (tkS eqB (Xb (Zb (Zj 4) (tkS Xj (nmS (tkS J5 S))))))):=by
 rcases S with y|ts
 · cases h
 · show Yi2 d ts=_
   rw [Yeb];simp only [ifR]
   cases h0:atB 1 J5 ts with
   | false =>
     rw [show tkS J5 (.ok ts)=.error 2 by rw [Zzc (show isS 1 J5 (.ok ts)=false from h0)];rfl] at h
     cases h
   | true =>
     have e0:tkS J5 (.ok ts)=.ok ts.tail:=by
       show (if atB 1 J5 ts=true then _ else _)=_;rw [if_pos h0]
     rw [e0] at h ⊢;simp only [if_true,nmR,nmS,nmV] at h ⊢
     cases hn:Zg ts.tail with
     | none=>rw [hn] at h;cases h
     | some a =>
       obtain ⟨n,r⟩:=a;rw [hn] at h;simp only at h ⊢
       cases h1:atB 1 Xj r with
       | false =>
         rw [show tkS Xj (.ok r)=.error 2 by rw [Zzc (show isS 1 Xj (.ok r)=false from h1)];rfl] at h
         cases h
       | true =>
         have e1:tkS Xj (.ok r)=.ok r.tail:=by
           show (if atB 1 Xj r=true then _ else _)=_;rw [if_pos h1]
         rw [e1] at h ⊢;simp only [Zb] at h ⊢
         cases ht:Zj 4 r.tail with
         | error y=>rw [ht] at h;cases h
         | ok t =>
           rw [ht] at h;have h2:atB 1 eqB t.2=true:=h
           have e2:tkS eqB (Xb (.ok t))=.ok t.2.tail:=by
            show (if atB 1 eqB t.2=true then _ else _)=_;rw [if_pos h2]
           rw [e2];simp only [ifR,h1,if_true,Ym,ht,Yq5,h2,Gk,Ul]
           cases Im true d t.2.tail<;>rfl
theorem Yp7 (d:Nat) (S:StP) (h:isS 1 eqB (Xb (Zb (Zj 4) (tkS Xj (nmS (tkS J5 S)))))=false):Zb (Yi2 d) S=F1 (fun t=>⟨nmV (tkS J5 S),t.1,t.2.1,t.2.2,false,Qf⟩) (Zb (Zj 4) (tkS Xj (nmS (tkS J5 S)))):=by
 rcases S with y|ts
 · rfl
 · show Yi2 d ts=_
   rw [Yeb];simp only [ifR]
   cases h0:atB 1 J5 ts with
   | false =>
     rw [show tkS J5 (.ok ts)=.error 2 by rw [Zzc (show isS 1 J5 (.ok ts)=false from h0)];rfl]
     rfl
   | true =>
     have e0:tkS J5 (.ok ts)=.ok ts.tail:=by
       show (if atB 1 J5 ts=true then _ else _)=_;rw [if_pos h0]
     rw [e0] at h ⊢;simp only [if_true,nmR,nmS,nmV] at h ⊢
     cases hn:Zg ts.tail with
     | none=>rfl
     | some a =>
       obtain ⟨n,r⟩:=a;rw [hn] at h;simp only at h ⊢
       cases h1:atB 1 Xj r with
       | false =>
         rw [show tkS Xj (.ok r)=.error 2 by rw [Zzc (show isS 1 Xj (.ok r)=false from h1)];rfl];simp only [ifR,h1,Bool.false_eq_true,if_false]
         rfl
       | true =>
         have e1:tkS Xj (.ok r)=.ok r.tail:=by
           show (if atB 1 Xj r=true then _ else _)=_;rw [if_pos h1]
         rw [e1] at h ⊢;simp only [Zb] at h ⊢
         cases ht:Zj 4 r.tail with
         | error y =>
           simp only [ifR,h1,if_true,Ym,ht]
           rfl
         | ok t =>
           rw [ht] at h;have h2:atB 1 eqB t.2=false:=h;simp only [ifR,h1,if_true,Ym,ht,Yq5,h2,Bool.false_eq_true,if_false]
           rfl
variable {nT:Nat}
def RP (nT:Nat) (w:World) (r d:Nat) (S:StP):Prop:=∃ (A:Option Addr) (c p:Nat) (dd x:Int) (all:List Tok),
 w.heap[r]? = some (.cells #[.slice A all.length c,.int .i64 p,.int .i64 dd,.int .i64 x] 43 (0,0))∧all.length≤200000∧p≤all.length∧Lw w r A all∧all.length=nT ∧
 (match S with | .ok ts=>x=0∧dd=d∧ts=all.drop p | .error y=>x=y∧y ≠ 0)
theorem RP.lt {w:World} {r d:Nat} {S:StP} (h:RP nT w r d S):r < w.heap.size:=by
 obtain ⟨_,_,_,_,_,_,h,_⟩:=h;exact (Array.getElem?_eq_some_iff.1 h).1
theorem RP.below {w w':World} {r d:Nat} {S:StP} (h:RP nT w r d S) (hb:Below w.heap.size w w'):RP nT w' r d S:=by
 have hl:=h.lt;obtain ⟨A,c,p,dd,x,all,h0,h1,h2,h3,h5,h4⟩:=h;exact ⟨A,c,p,dd,x,all,(hb.block r hl).trans h0,h1,h2,h3.moved (Z0.of_below hb) hl,h5,h4⟩
theorem RP.set {w:World} {r b i d:Nat} {v:Value} {S:StP} (h:RP nT w r d S) (hb:r < b):RP nT (w.setCell ⟨b,i,none⟩ v) r d S:=by
 obtain ⟨A,c,p,dd,x,all,h0,h1,h2,h3,h5,h4⟩:=h;refine ⟨A,c,p,dd,x,all,(Below.heap_setCell _ _ _ _ (by show r ≠ b;omega)).trans h0,h1,h2,fun j t ht=>?_,h5,h4⟩;obtain ⟨k,o,e,hx,g0,g1⟩:=h3 j t ht;have hs:(w.setCell ⟨b,i,none⟩ v).heap[k]? = w.heap[k]?:=Below.heap_setCell _ _ _ _ (by show k ≠ b;omega);exact ⟨k,o,e,hx,(World.cell?_of_block (a:=⟨k,o+j*2,none⟩) hs).trans g0,(World.cell?_of_block (a:=⟨k,o+j*2+1,none⟩) hs).trans g1⟩
theorem RP.err {w:World} {r d d':Nat} {y:Int} (h:RP nT w r d (.error y)):RP nT w r d' (.error y):=h
theorem Bv {w:World} {r i:Nat} {v:Value} {A:Option Addr} {all:List Tok} (h3:Lw w r A all):Lw (w.setCell ⟨r,i,none⟩ v) r A all:=fun j t ht=>by
 obtain ⟨k,o,e,hx,g0,g1⟩:=h3 j t ht;have hs:(w.setCell ⟨r,i,none⟩ v).heap[k]? = w.heap[k]?:=Below.heap_setCell _ _ _ _ (by show k ≠ r;omega);exact ⟨k,o,e,hx,(World.cell?_of_block (a:=⟨k,o+j*2,none⟩) hs).trans g0,(World.cell?_of_block (a:=⟨k,o+j*2+1,none⟩) hs).trans g1⟩
theorem Ek {B b i:Nat} {w W:World} {v:Value} (h:Below B w W) (hb:B≤b):Below B w (W.setCell ⟨b,i,none⟩ v):=h.setCell (p:=⟨b,i,none⟩) hb v
theorem Lz (r d:Nat) (S:StP) (w:World) (h:RP nT w r d S):Calls Tryz.prog 12 #[.pointer (some ⟨r,0,none⟩)] w fun e w'=>e=.returned (.agg #[.int .i64 (X3 S).1,.string (X3 S).2])∧Below w.heap.size w w':=by
 obtain ⟨A,c,p,dd,x,all,h0,h1,h2,h3,h5,h4⟩:=h;have hr:=(Array.getElem?_eq_some_iff.1 h0).1;have B1:=Hd (blw w (.cells #[.int .i64 0,.string ⟨#[]⟩] 45));have Z1:=Hd (heap_alloc_last w (.cells #[.int .i64 0,.string ⟨#[]⟩] 45));obtain ⟨c0,c1,c2,c3,cz⟩:=Zh ((B1.out.block r hr).trans h0);have HL:=Hd (And.intro h1 h2);have H3:=Hd h3;rcases S with y|ts
 · obtain ⟨rfl,hy⟩:=h4
   have t1:(x != 0)=true:=by simpa using hy
   clear h0 h1 h2 h3 hy cz
   go_enter Tryz.func12,Tryz.ntmps12
   go_wp2_with fail
   go_quiet (fail)
   go_wp2_with fail
   refine Cr rfl rfl rfl (heap_setCell_same _ _ 1 _ _ _ (heap_setCell_same _ _ 0 _ _ _ Z1.out)) ⟨rfl,?_⟩;exact Ek (Ek ((B1.out.trans ⟨rfl,rfl,rfl,Nat.le_refl _,fun _ _=>rfl⟩)) (Nat.le_refl _)) (Nat.le_refl _)
 · obtain ⟨rfl,rfl,rfl⟩:=h4
   by_cases hp:p < all.length
   · have hp2:decide ((all.length:Int)≤(p:Int))=false:=by simp;omega
     have hp3:(p:Int) < (all.length:Int):=by omega
     have hp4:(0:Int)≤(p:Int):=by omega
     have hpk:Hid (X3 (.ok (all.drop p))=all[p]):=Hd (by rw [List.drop_eq_getElem_cons hp];rfl);obtain ⟨b,o,hA,hb,g0,g1⟩:=h3 p all[p] (List.getElem?_eq_getElem hp);obtain ⟨t,ht⟩:∃ t,all[p]=t:=⟨_,rfl⟩;rw [ht] at hpk g0 g1;obtain ⟨tk,tx⟩:=t;subst hA;have f0:=(B1.out.cell (p:=⟨b,_,none⟩) (show b < w.heap.size by omega)).trans g0;have f1:=(B1.out.cell (p:=⟨b,_,none⟩) (show b < w.heap.size by omega)).trans g1;obtain ⟨n,hn⟩:∃ n,all.length=n:=⟨_,rfl⟩;rw [hn] at hp2 hp3 c0;clear h0 h1 h2 h3 cz g0 g1 ht hp hn
     go_enter Tryz.func12,Tryz.ntmps12
     go_wp2_with fail
     go_quiet (fail)
     go_wp2_with fail
     go_region
     go_wp2_with fail
     refine Cr rfl rfl rfl (heap_setCell_same _ _ 1 _ _ _ (heap_setCell_same _ _ 0 _ _ _ Z1.out)) ⟨by rw [hpk.out],?_⟩;exact Ek (Ek ((B1.out.trans ⟨rfl,rfl,rfl,Nat.le_refl _,fun _ _=>rfl⟩)) (Nat.le_refl _)) (Nat.le_refl _)
   · have hp2:decide ((all.length:Int)≤(p:Int))=true:=by simp;omega
     have hpk:Hid (X3 (.ok (all.drop p))=(0,⟨#[]⟩)):=Hd (by rw [List.drop_eq_nil_of_le (by omega)];rfl);clear h0 h1 h2 h3 cz
     go_enter Tryz.func12,Tryz.ntmps12
     go_wp2_with fail
     go_quiet (fail)
     go_wp2_with fail
     refine Cr rfl rfl rfl (heap_setCell_same _ _ 1 _ _ _ (heap_setCell_same _ _ 0 _ _ _ Z1.out)) ⟨by rw [hpk.out],?_⟩;exact Ek (Ek ((B1.out.trans ⟨rfl,rfl,rfl,Nat.le_refl _,fun _ _=>rfl⟩)) (Nat.le_refl _)) (Nat.le_refl _)
variable {nT:Nat}
def inS (d:Nat) (x dd:Int):StP→Prop
 | .ok _=>x=0∧dd=d
 | .error y=>x=y∧y ≠ 0
theorem RP.cells {w:World} {r d:Nat} {S:StP} (h:RP nT w r d S):∃ (A:Option Addr) (n c p:Nat) (dd x:Int),w.heap[r]? = some (.cells #[.slice A n c,.int .i64 p,.int .i64 dd,.int .i64 x] 43 (0,0))∧p≤200000∧inS d x dd S:=by
 obtain ⟨A,c,p,dd,x,all,h0,h1,h2,h3,h5,h4⟩:=h;refine ⟨A,_,c,p,dd,x,h0,by omega,?_⟩;rcases S with y|ts
 · exact h4
 · exact ⟨h4.1,h4.2.1⟩
theorem RP.fails {w:World} {r d:Nat} {ts:List Tok} {x:Int} (hx:x ≠ 0) (h:RP nT w r d (.ok ts)):RP nT (w.setCell ⟨r,3,none⟩ (.int .i64 x)) r d (.error x):=by
 obtain ⟨A,c,p,dd,x',all,h0,h1,h2,h3,h5,h4⟩:=h;exact ⟨A,c,p,dd,x,all,heap_setCell_same _ _ 3 _ _ _ h0,h1,h2,Bv h3,h5,rfl,hx⟩
theorem RP.advance {w:World} {r d p n c:Nat} {A:Option Addr} {dd x:Int} {t:Tok} {ts:List Tok} (h:RP nT w r d (.ok (t :: ts))) (h0:w.heap[r]? = some (.cells #[.slice A n c,.int .i64 p,.int .i64 dd,.int .i64 x] 43 (0,0))):RP nT (w.setCell ⟨r,1,none⟩ (.int .i64 ((p:Int)+1))) r d (.ok ts):=by
 obtain ⟨A',c',p',dd',x',all,h0',h1,h2,h3,h5,h4⟩:=h;rw [h0] at h0';have e:=Option.some.inj h0';injection e with e _ _
 injection e with e
 injection e with e1 e
 injection e with e2 e
 injection e with e3 e
 injection e with e4 _
 injection e1 with e1 e5 e6
 injection e2 with _ e2
 injection e3 with _ e3
 injection e4 with _ e4
 have e2:p=p':=by omega
 subst e1 e5 e6 e2 e3 e4;obtain ⟨g1,g2,g3⟩:=h4
 have hlt:p < all.length:=by
  by_cases hp:p < all.length
  · exact hp
  · rw [List.drop_eq_nil_of_le (by omega)] at g3;cases g3
 rw [List.drop_eq_getElem_cons hlt] at g3;refine ⟨A,c,p+1,dd,x,all,heap_setCell_same _ _ 1 _ _ _ h0,h1,hlt,Bv h3,h5,g1,g2,(List.cons.inj g3).2⟩
theorem RP.deeper {w:World} {r d d' p n c:Nat} {A:Option Addr} {dd x v:Int} {S:StP} (h:RP nT w r d S) (h0:w.heap[r]? = some (.cells #[.slice A n c,.int .i64 p,.int .i64 dd,.int .i64 x] 43 (0,0))) (hv:∀ ts,S=.ok ts→v=d'):RP nT (w.setCell ⟨r,2,none⟩ (.int .i64 v)) r d' S:=by
 obtain ⟨A',c',p',dd',x',all,h0',h1,h2,h3,h5,h4⟩:=h;rw [h0] at h0';have e:=Option.some.inj h0';injection e with e _ _
 injection e with e
 injection e with e1 e
 injection e with e2 e
 injection e with e3 e
 injection e with e4 _
 injection e1 with e1 e5 e6
 injection e2 with _ e2
 injection e3 with _ e3
 injection e4 with _ e4
 have e2:p=p':=by omega
 subst e1 e5 e6 e2 e3 e4;refine ⟨A,c,p,v,x,all,heap_setCell_same _ _ 2 _ _ _ h0,h1,h2,Bv h3,h5,?_⟩;rcases S with y|ts
 · exact h4
 · exact ⟨h4.1,hv ts rfl,h4.2.2⟩
theorem ris (r d:Nat) (S:StP) (s:ByteArray) (w:World) (h:RP nT w r d S):Calls Tryz.prog 32 #[.pointer (some ⟨r,0,none⟩),.string s] w fun e w'=>e=.returned (.bool (isS 1 s S))∧Below w.heap.size w w':=by
 have HP:=Hd (Lz r d S w h);have HI:=Hd (Zjn 1 s S (by decide));obtain ⟨q,hq⟩:∃ q,X3 S=q:=⟨_,rfl⟩;rw [hq] at HP HI;clear hq;obtain ⟨tk,tx⟩:=q
 dsimp only at HP HI
 go_enter Tryz.func32,Tryz.ntmps32
 go_wp2_with fail
 refine HP.out.mono ?_;rintro e w1 ⟨rfl,hb1⟩;have B1:=Hd hb1;clear hb1;go_wp2_with fail
 all_goals
  go_ret
  exact ⟨Z6 (by rw [HI.out];simp [*]),B1.out.alloc B1.out.size _⟩
theorem Tx (r d:Nat) (S:StP) (s:ByteArray) (w:World) (h:RP nT w r d S):Calls Tryz.prog 15 #[.pointer (some ⟨r,0,none⟩),.string s] w fun e w'=>e=.returned (.bool (isS 2 s S))∧Below w.heap.size w w':=by
 have HP:=Hd (Lz r d S w h);have HI:=Hd (Zjn 2 s S (by decide));obtain ⟨q,hq⟩:∃ q,X3 S=q:=⟨_,rfl⟩;rw [hq] at HP HI;clear hq;obtain ⟨tk,tx⟩:=q
 dsimp only at HP HI
 go_enter Tryz.func15,Tryz.ntmps15
 go_wp2_with fail
 refine HP.out.mono ?_;rintro e w1 ⟨rfl,hb1⟩;have B1:=Hd hb1;clear hb1;go_wp2_with fail
 all_goals
  go_ret
  exact ⟨Z6 (by rw [HI.out];simp [*]),B1.out.alloc B1.out.size _⟩
theorem N3 (r d:Nat) (S:StP) (x:Int) (hx:x ≠ 0) (w:World) (h:RP nT w r d S):Calls Tryz.prog 17 #[.pointer (some ⟨r,0,none⟩),.int .i64 x] w fun e w'=>e=.returned (.tuple #[])∧RP nT w' r d (Mp x S)∧Z0 r w w':=by
 have H:=Hd h;obtain ⟨A,n,c,p,dd,x0,h0,h1,h2⟩:=h.cells;obtain ⟨c0,c1,c2,c3,cz⟩:=Zh h0;have z3:=cz 3;have HX:=Hd hx;clear cz h hx;rcases S with y|ts
 · obtain ⟨rfl,hy⟩:=h2
   have t1:(x0 == 0)=false:=by simpa using hy
   clear h0 h1 hy
   go_enter Tryz.func17,Tryz.ntmps17
   go_wp2_with fail
   go_end0
   exact ⟨rfl,H.out,Z0.refl _ _⟩
 · obtain ⟨rfl,rfl⟩:=h2
   clear h0 h1
   go_enter Tryz.func17,Tryz.ntmps17
   go_wp2_with fail
   go_end0
   exact ⟨rfl,H.out.fails HX.out,Z0.set⟩
theorem J1 (r d:Nat) (S:StP) (s:ByteArray) (w:World) (h:RP nT w r d S):Calls Tryz.prog 31 #[.pointer (some ⟨r,0,none⟩),.string s] w fun e w'=>e=.returned (.tuple #[])∧RP nT w' r d (tkS s S)∧Z0 r w w':=by
 have HI:=Hd (ris r d S s w h);have H:=Hd h
 cases hb:isS 1 s S with
 | false =>
   rw [hb] at HI;have HT:=Hd (Zzc hb);have HF:=fun wx (hb:Below w.heap.size w wx)=>Hd (N3 r d S 2 (by decide) wx (H.out.below hb));clear hb h
   go_enter Tryz.func31,Tryz.ntmps31
   go_wp2_with fail
   refine HI.out.mono ?_;rintro e w1 ⟨rfl,hb1⟩;have B1:=Hd hb1;clear hb1;go_wp2_with fail
   refine (HF _ B1.out).out.mono ?_;rintro e w2 ⟨rfl,h2,m2⟩;have H2:=Hd (And.intro h2 ((Z0.of_below (r:=r) B1.out).trans m2));clear h2 m2;go_wp2_with fail
   refine bodyPost_ret (results_none rfl _ _ _) rfl ?_;exact ⟨rfl,by rw [HT.out];exact H2.out.1,H2.out.2⟩
 | true =>
   rw [hb] at HI;obtain ⟨t,ts,rfl,e2⟩:=Xr hb;have HT:=Hd e2;clear hb h e2
   go_enter Tryz.func31,Tryz.ntmps31
   go_wp2_with fail
   refine HI.out.mono ?_;rintro e w1 ⟨rfl,hb1⟩;have B1:=Hd hb1;have H1:=Hd (H.out.below hb1);obtain ⟨A,n,c,p,dd,x0,h0,h1,h2⟩:=H1.out.cells;have h9:=Hd h0;obtain ⟨c0,c1,c2,c3,cz⟩:=Zh h0;have z1:=cz 1;clear cz hb1 h0;go_wp2_with fail
   go_end0
   exact ⟨rfl,by rw [HT.out];exact H1.out.advance h9.out,(Z0.of_below B1.out).trans Z0.set⟩
theorem Uu (r d:Nat) (S:StP) (w:World) (h:RP nT w r d S):Calls Tryz.prog 13 #[.pointer (some ⟨r,0,none⟩)] w fun e w'=>e=.returned (.string (nmV S))∧RP nT w' r d (nmS S)∧Z0 r w w':=by
 have HP:=Hd (Lz r d S w h);have HW:=Zze S;have H:=Hd h
 cases hb:Zq9 S with
 | false =>
   obtain ⟨e1,e2⟩:=Ybm hb;have HT:=Hd (And.intro e1 e2);rw [hb] at HW;have hne:((X3 S).1 != 2)=true:=by simp [bne,← HW]
   obtain ⟨q,hq⟩:∃ q,X3 S=q:=⟨_,rfl⟩;rw [hq] at HP hne;clear hq;obtain ⟨tk,tx⟩:=q
   dsimp only at HP hne
   have HF:=fun wx (hb:Below w.heap.size w wx)=>Hd (N3 r d S 2 (by decide) wx (H.out.below hb));clear hb h e1 e2 HW
   go_enter Tryz.func13,Tryz.ntmps13
   go_wp2_with fail
   refine HP.out.mono ?_;rintro e w1 ⟨rfl,hb1⟩;have B1:=Hd hb1;have B2:=Hd (hb1.alloc hb1.size (.cells #[.int .i64 tk,.string tx] 45));clear hb1;go_wp2_with fail
   refine (HF _ B2.out).out.mono ?_;rintro e w2 ⟨rfl,h2,m2⟩;have H2:=Hd (And.intro h2 ((Z0.of_below (r:=r) B2.out).trans m2));clear h2 m2;go_wp2_with fail
   go_ret
   exact ⟨by rw [HT.out.1];rfl,by rw [HT.out.2];exact H2.out.1,H2.out.2⟩
 | true =>
   obtain ⟨t,ts,rfl,e1,e2⟩:=Gu hb;have HT:=Hd (And.intro e1 e2);obtain ⟨tk,tx⟩:=t
   have hne:(tk != 2)=false:=by
    have:(tk == 2)=true:=hb;simp [bne,this]
   have HP:=Hd (show Calls Tryz.prog 12 #[.pointer (some ⟨r,0,none⟩)] w fun e w'=>e=.returned (.agg #[.int .i64 tk,.string tx])∧Below w.heap.size w w' from HP.out);clear hb h e1 e2 HW
   go_enter Tryz.func13,Tryz.ntmps13
   go_wp2_with fail
   refine HP.out.mono ?_;rintro e w1 ⟨rfl,hb1⟩;have B2:=Hd (hb1.alloc hb1.size (.cells #[.int .i64 tk,.string tx] 45));have Z2:=Hd (heap_alloc_last w1 (.cells #[.int .i64 tk,.string tx] 45));have H1:=Hd (H.out.below B2.out);have hr:=H.out.lt;have hs:=hb1.size;obtain ⟨A,n,c,p,dd,x0,h0,h1,h2⟩:=H1.out.cells;have h9:=Hd h0;obtain ⟨c0,c1,c2,c3,cz⟩:=Zh h0;have z1:=cz 1;have hne2:w1.heap.size ≠ r:=by omega
   clear cz hb1 h0;go_wp2_with fail
   go_ret
   exact ⟨by rw [HT.out.1];rfl,by rw [HT.out.2];exact H1.out.advance h9.out,(Z0.of_below B2.out).trans Z0.set⟩
theorem Dx {d:Nat} {s:ByteArray} {S:StP} (h:isS 1 s S=true) (hd:d=16):Bb d s S=.error 4:=by unfold Bb;rw [if_pos ⟨h,hd⟩]
theorem Ob {d:Nat} {s:ByteArray} {S:StP} (h : ¬ (isS 1 s S=true∧d=16)):Bb d s S=tkS s S:=by unfold Bb;rw [if_neg h]
theorem Yj9 (d:Nat) (hd:d≤16):wrap64 ((d:Int)+1)=((d+1:Nat):Int):=by
 unfold wrap64;omega
theorem Yiv (d:Nat) (hd:d≤16):wrap64 (((d+1:Nat):Int) - 1)=(d:Int):=by
 unfold wrap64;omega
theorem Yq0 (r d:Nat) (S:StP) (s:ByteArray) (w:World) (hd:d≤16) (h:RP nT w r d S):Calls Tryz.prog 125 #[.pointer (some ⟨r,0,none⟩),.string s] w fun e w'=>e=.returned (.tuple #[])∧RP nT w' r (d+1) (Bb d s S)∧Z0 r w w':=by
 have HI:=Hd (ris r d S s w h);have H:=Hd h;have HT:=fun wx (hb:Below w.heap.size w wx)=>Hd (J1 r d S s wx (H.out.below hb))
 cases hb:isS 1 s S with
 | false =>
   rw [hb] at HI;have HE:=Hd (Ob (d:=d) (s:=s) (S:=S) (by rw [hb];simp));have HK:=Hd (Zzc hb);clear hb h
   go_enter Tryz.func125,Tryz.ntmps125
   go_wp2_with fail
   refine HI.out.mono ?_;rintro e w1 ⟨rfl,hb1⟩;have B1:=Hd hb1;clear hb1;go_wp2_with fail
   refine (HT _ B1.out).out.mono ?_;rintro e w2 ⟨rfl,h2,m2⟩;have H2:=Hd h2;have M2:=Hd ((Z0.of_below (r:=r) B1.out).trans m2);obtain ⟨A,n,c,p,dd,x0,h0,h1,_⟩:=h2.cells;have h9:=Hd h0;obtain ⟨c0,c1,c2,c3,cz⟩:=Zh h0;have z2:=cz 2;clear cz m2 h0 h2;go_wp2_with fail
   go_end0
   refine ⟨rfl,?_,M2.out.trans Z0.set⟩;rw [HE.out];refine H2.out.deeper h9.out (fun ts e=>?_);rw [HK.out] at e;rcases S with y|us<;>cases e
 | true =>
   rw [hb] at HI;obtain ⟨t,ts,rfl,e2⟩:=Xr hb
   by_cases h16:d=16
   · subst h16
     have HE:=Hd (Dx hb rfl);have HF:=fun wx (hb:Below w.heap.size w wx)=>Hd (N3 r 16 (.ok (t :: ts)) 4 (by decide) wx (H.out.below hb));clear hb h e2 HT
     go_enter Tryz.func125,Tryz.ntmps125
     go_wp2_with fail
     refine HI.out.mono ?_;rintro e w1 ⟨rfl,hb1⟩;have B1:=Hd hb1;obtain ⟨A,n,c,p,dd,x0,h0,h1,_,rfl⟩:=(H.out.below hb1).cells;obtain ⟨c0,c1,c2,c3,cz⟩:=Zh h0;clear hb1 cz h0;go_wp2_with fail
     refine (HF _ B1.out).out.mono ?_;rintro e w2 ⟨rfl,h2,m2⟩;have H2:=Hd (And.intro h2 ((Z0.of_below (r:=r) B1.out).trans m2));clear h2 m2;go_wp2_with fail
     refine bodyPost_ret (results_none rfl _ _ _) rfl ?_;exact ⟨rfl,by rw [HE.out];exact RP.err H2.out.1,H2.out.2⟩
   · have HE:=Hd (Ob (d:=d) (s:=s) (S:=.ok (t :: ts)) (fun h=>h16 h.2))
     have hlt:decide ((16:Int)≤(d:Int))=false:=by simp;omega
     clear hb h e2
     go_enter Tryz.func125,Tryz.ntmps125
     go_wp2_with fail
     refine HI.out.mono ?_;rintro e w1 ⟨rfl,hb1⟩;have B1:=Hd hb1;obtain ⟨A,n,c,p,dd,x0,h0,h1,_,rfl⟩:=(H.out.below hb1).cells;obtain ⟨c0,c1,c2,c3,cz⟩:=Zh h0;clear hb1 cz h0;go_wp2_with fail
     refine (HT _ B1.out).out.mono ?_;rintro e w2 ⟨rfl,h2,m2⟩;have H2:=Hd h2;have M2:=Hd ((Z0.of_below (r:=r) B1.out).trans m2);obtain ⟨A',n',c',p',dd',x0',h0',h1',h2'⟩:=h2.cells;have h9:=Hd h0';have hin:=Hd h2';obtain ⟨k0,k1,k2,k3,kz⟩:=Zh h0';have z2:=kz 2;clear kz m2 h0' h2 h2' c0 c1 c2 c3;go_wp2_with fail
     go_end0
     refine ⟨rfl,?_,M2.out.trans Z0.set⟩;rw [HE.out];refine H2.out.deeper h9.out (fun us e=>?_);have hi:=hin.out;rw [e] at hi;obtain ⟨_,rfl⟩:=hi;exact Yj9 d hd
theorem Yif (r d:Nat) (S:StP) (s:ByteArray) (w:World) (hd:d≤16) (h:RP nT w r (d+1) S):Calls Tryz.prog 126 #[.pointer (some ⟨r,0,none⟩),.string s] w fun e w'=>e=.returned (.tuple #[])∧RP nT w' r d (tkS s S)∧Z0 r w w':=by
 have HT:=Hd (J1 r (d+1) S s w h);clear h
 go_enter Tryz.func126,Tryz.ntmps126
 go_wp2_with fail
 refine HT.out.mono ?_;rintro e w2 ⟨rfl,h2,m2⟩;have H2:=Hd h2;have M2:=Hd m2;obtain ⟨A',n',c',p',dd',x0',h0',h1',h2'⟩:=h2.cells;have h9:=Hd h0';have hin:=Hd h2';obtain ⟨k0,k1,k2,k3,kz⟩:=Zh h0';have z2:=kz 2;clear kz m2 h0' h2 h2';go_wp2_with fail
 go_end0
 refine ⟨rfl,?_,M2.out.trans Z0.set⟩;refine H2.out.deeper h9.out (fun us e=>?_);have hi:=hin.out;rw [e] at hi;obtain ⟨_,rfl⟩:=hi;exact Yiv d hd
variable {nT:Nat}
theorem RP.setAll {r b d:Nat} {S:StP} (hb:r < b):∀ (xs:List Value) (i:Nat) (W:World),RP nT W r d S→RP nT (setAll W b i xs) r d S
 | [],_,_,h=>h
 | x :: t,i,W,h=>by rw [Proofs.YtkmloefbkgcbkaaGreatDoor.setAll];exact RP.setAll hb t _ _ (h.set hb)
structure Q0 (nT:Nat) (w:World) (r:Nat) (W:World) (o:Obj) (S:StP) (d:Nat):Prop where
 res:W.heap[w.heap.size]? = some o
 mv:Z0 r w W
 hr:r < w.heap.size
 rd:RP nT W r d S
theorem Q0.lt {w:World} {r:Nat} {W:World} {o:Obj} {S:StP} {d:Nat} (h:Q0 nT w r W o S d):w.heap.size < W.heap.size:=(Array.getElem?_eq_some_iff.1 h.res).1
theorem Q0.start {w:World} {r:Nat} {S:StP} {d:Nat} (hR:RP nT w r d S) (cs:Array Value) (t:TypeId):Q0 nT w r (w.alloc (.cells cs t)) (.cells cs t (0,0)) S d:=
 ⟨heap_alloc_new _ _,Z0.of_below (blw _ _),hR.lt,hR.below (blw _ _)⟩
theorem Q0.next {w:World} {r:Nat} {W W':World} {o:Obj} {S S':StP} {d d':Nat} (h:Q0 nT w r W o S d) (rd:RP nT W' r d' S') (m:Z0 r W W'):Q0 nT w r W' o S' d':=
 ⟨m.keep h.res (by have:=h.hr;omega),h.mv.trans m,h.hr,rd⟩
structure Q1 (nT:Nat) (w:World) (r:Nat) (W:World) (o:Obj) (b:Nat) (o1:Obj) (S:StP) (d:Nat):Prop where
 res:W.heap[w.heap.size]? = some o
 loc:W.heap[b]? = some o1
 bl:w.heap.size < b
 mv:Z0 r w W
 hr:r < w.heap.size
 rd:RP nT W r d S
theorem Q1.blt {w:World} {r:Nat} {W:World} {o:Obj} {b:Nat} {o1:Obj} {S:StP} {d:Nat} (h:Q1 nT w r W o b o1 S d):b < W.heap.size:=(Array.getElem?_eq_some_iff.1 h.loc).1
theorem Q1.rb {w:World} {r:Nat} {W:World} {o:Obj} {b:Nat} {o1:Obj} {S:StP} {d:Nat} (h:Q1 nT w r W o b o1 S d):r < b:=Nat.lt_trans h.hr h.bl
theorem Q1.of {w:World} {r:Nat} {W W':World} {o o1:Obj} {S:StP} {d:Nat} (h:Q0 nT w r W o S d) (hl:W'.heap[W.heap.size]? = some o1) (hb:Below W.heap.size W W'):Q1 nT w r W' o W.heap.size o1 S d:=
 ⟨(hb.block _ h.lt).trans h.res,hl,h.lt,h.mv.trans (Z0.of_below hb),h.hr,h.rd.below hb⟩
theorem Q1.make {w:World} {r:Nat} {W:World} {o:Obj} {S:StP} {d:Nat} (h:Q0 nT w r W o S d) (cs:Array Value) (t:TypeId):Q1 nT w r (W.alloc (.cells cs t)) o W.heap.size (.cells cs t (0,0)) S d:=
 Q1.of h (heap_alloc_new _ _) (blw _ _)
theorem Q1.next {w:World} {r:Nat} {W W':World} {o:Obj} {b:Nat} {o1:Obj} {S S':StP} {d d':Nat} (h:Q1 nT w r W o b o1 S d) (rd:RP nT W' r d' S') (m:Z0 r W W'):Q1 nT w r W' o b o1 S' d':=
 ⟨m.keep h.res (by have:=h.hr;omega),m.keep h.loc (by have:=h.rb;omega),h.bl,h.mv.trans m,h.hr,rd⟩
theorem Q1.put {w:World} {r:Nat} {W:World} {o:Obj} {b:Nat} {cs:Array Value} {t:TypeId} {S:StP} {d:Nat} (h:Q1 nT w r W o b (.cells cs t (0,0)) S d) (i:Nat) (v:Value):Q1 nT w r (W.setCell ⟨b,i,none⟩ v) o b (.cells (cs.setIfInBounds i v) t (0,0)) S d:=
 ⟨V6 h.res (by have:=h.bl;omega),heap_setCell_same _ _ _ _ _ _ h.loc,h.bl,h.mv.put (Nat.le_of_lt h.bl),h.hr,h.rd.set h.rb⟩
theorem Q1.fin {w:World} {r:Nat} {W:World} {ys:List Value} {t:TypeId} {b:Nat} {o1:Obj} {S:StP} {d:Nat} (h:Q1 nT w r W (.cells ys.toArray t (0,0)) b o1 S d) (xs:List Value) (hl:ys.length=xs.length) :
  (setAll W w.heap.size 0 xs).heap[w.heap.size]? = some (.cells xs.toArray t (0,0))∧RP nT (setAll W w.heap.size 0 xs) r d S∧Z0 r w (setAll W w.heap.size 0 xs):=
 ⟨Yu hl h.res,RP.setAll h.hr _ _ _ h.rd,Z0.setAll (Nat.le_refl _) _ _ _ h.mv⟩
theorem Q0.fin {w:World} {r:Nat} {W:World} {ys:List Value} {t:TypeId} {S:StP} {d:Nat} (h:Q0 nT w r W (.cells ys.toArray t (0,0)) S d) (xs:List Value) (hl:ys.length=xs.length) :
  (setAll W w.heap.size 0 xs).heap[w.heap.size]? = some (.cells xs.toArray t (0,0))∧RP nT (setAll W w.heap.size 0 xs) r d S∧Z0 r w (setAll W w.heap.size 0 xs):=
 ⟨Yu hl h.res,RP.setAll h.hr _ _ _ h.rd,Z0.setAll (Nat.le_refl _) _ _ _ h.mv⟩
def Ans {α:Type} (enc:α→TrS) (w w':World) (R:Except Int (α × List Tok)) (cs:List Value):Prop:=∃ x:TrS,TS w' (Y7 w w') x cs∧∀ a ts,R=.ok (a,ts)→x=enc a
end Go.Proofs.YtkmloefbkgcbkaaGreatDoor
