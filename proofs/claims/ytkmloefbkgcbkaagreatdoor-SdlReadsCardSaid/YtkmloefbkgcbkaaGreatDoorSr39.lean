/- The document's reader of schemas: what its functions come to. -/
import Derived.Test.YtkmloefbkgcbkaaGreatDoorSr38
set_option maxRecDepth 100000
set_option maxHeartbeats 8000000
namespace Go.Proofs.YtkmloefbkgcbkaaGreatDoor
open Go.RowKit
def Yt:StP→StP
 | .ok ts=>.ok (U1 ts)
 | .error y=>.error y
theorem Ync {S:StP} (h:((X3 S).1 == 5)=true):∃ t ts,S=.ok (t :: ts)∧Yt S=.ok ts:=by
 rcases S with y|ts
 · cases h
 · rcases ts with _|⟨t,ts⟩
   · cases h
   · refine ⟨t,ts,rfl,?_⟩
     show Except.ok (U1 (t :: ts))=_;unfold U1;rw [if_pos (show Zyh 5 (t :: ts)=true from h)];rfl
theorem Yos {S:StP} (h:((X3 S).1 == 5)=false):Yt S=S:=by
 rcases S with y|ts
 · rfl
 · rcases ts with _|⟨t,ts⟩
   · rfl
   · show Except.ok (U1 (t :: ts))=_
     unfold U1;rw [if_neg (by rw [show Zyh 5 (t :: ts)=false from h];simp)]
theorem Sd {S:StP} {ts:List Tok} (h:Yt S=.ok ts):∃ us,S=.ok us∧ts <:+ us:=by
 rcases S with y|us
 · cases h
 · have h:=Except.ok.inj h
   subst h;exact ⟨us,rfl,Vd us⟩
theorem Ymr {α:Type} (p:Rdr α) (S:StP):Zb (Yqd p) S=Zb p (Yt S):=by rcases S with y|ts<;>rfl
theorem Yk5 (ts:List Tok):tkS J5 (.ok ((1,J5) :: ts))=.ok ts:=by
 have h0:atB 1 J5 ((1,J5) :: ts)=true:=by show ((1:Int) == 1 && (J5.toList == J5.toList))=true;simp
 show (if atB 1 J5 _=true then _ else _)=_;rw [if_pos h0];rfl
theorem Ybq (d:Nat) (ts:List Tok):Zb (Yi2 d) (.ok ((1,J5) :: ts))=Zb (V0 d) (.ok ts):=by
 have h0:atB 1 J5 ((1,J5) :: ts)=true:=by show ((1:Int) == 1 && (J5.toList == J5.toList))=true;simp
 show Yi2 d _=V0 d ts;rw [Yds,if_pos h0];rfl
theorem Yef (d:Nat) (S:StP) (h:isS 1 eqB (Xb (Zb (Zj 4) (tkS Xj (nmS S))))=true):Zb (V0 d) S =
    F1 (fun v=>⟨nmV S,(Ul (eB,0,0) (Zb (Zj 4) (tkS Xj (nmS S)))).1,(Ul (eB,0,0) (Zb (Zj 4) (tkS Xj (nmS S)))).2.1,(Ul (eB,0,0) (Zb (Zj 4) (tkS Xj (nmS S)))).2.2,true,v⟩) (Zb (Im true d) (tkS eqB (Xb (Zb (Zj 4) (tkS Xj (nmS S)))))):=by
 rcases S with y|ts
 · cases h
 · have e:=Ynh d (.ok ((1,J5) :: ts))
   rw [Yk5,Ybq] at e;exact e h
theorem Yih (d:Nat) (S:StP) (h:isS 1 eqB (Xb (Zb (Zj 4) (tkS Xj (nmS S))))=false):Zb (V0 d) S=F1 (fun t=>⟨nmV S,t.1,t.2.1,t.2.2,false,Qf⟩) (Zb (Zj 4) (tkS Xj (nmS S))):=by
 rcases S with y|ts
 · rfl
 · have e:=Yp7 d (.ok ((1,J5) :: ts))
   rw [Yk5,Ybq] at e;exact e h
theorem Ycs (d:Nat) (S:StP):Zb (W4 d) S=Zb (V0 d) (Yt S):=Ymr (V0 d) S
theorem Yjj {d:Nat} {S:StP} (h:isS 1 opB S=false):Zb (Jj d) S=F1 (fun _=>[]) (Zb (fun ts=>.ok ((),ts)) S):=by
 rcases S with y|ts
 · rfl
 · have h' : ¬ atB 1 opB ts=true:=by
    have:atB 1 opB ts=false:=h;rw [this];simp
   show Jj d ts=_;unfold Jj;rw [if_neg h']
   rfl
theorem Yfe {d:Nat} {S:StP} (h:isS 1 opB S=true):Zb (Jj d) S=Zb (N7 (W4 d) V8 cpB []) (tkS opB S):=by
 obtain ⟨t,ts,rfl,h2⟩:=Xr h;have h1:atB 1 opB (t :: ts)=true:=h;rw [h2]
 show Jj d (t :: ts)=_;unfold Jj;rw [if_pos h1]
 rfl
def Yas (d:Nat) (S:StP):Except Int (List Cb × List Tok):=Zb (Jj d) (nmS (Yt S))
def Yfp (d:Nat) (S:StP):Except Int ((ByteArray × Nat × Nat) × List Tok):=Zb (Zj 4) (tkS Xj (Xb (Yas d S)))
theorem Ynx (d:Nat) (S:StP):Zb (fdR d) S=F1 (fun ds=>⟨nmV (Yt S),Ul [] (Yas d S),(Ul (eB,0,0) (Yfp d S)).1,(Ul (eB,0,0) (Yfp d S)).2.1,(Ul (eB,0,0) (Yfp d S)).2.2,ds⟩) (Zb (Dh true d) (Xb (Yfp d S))):=by
 rcases S with y|ts
 · rfl
 · unfold Yfp Yas
   show fdR d ts=_;unfold fdR;simp only [Yt,nmS,nmV]
   cases hn:Zg (U1 ts) with
   | none=>rfl
   | some a =>
     obtain ⟨n,r⟩:=a;simp only [Zb]
     cases hp:Jj d r with
     | error y=>rfl
     | ok q =>
       obtain ⟨ps,r2⟩:=q;simp only [Xb,Ul]
       cases hc:atB 1 Xj r2 with
       | false =>
         rw [show tkS Xj (.ok r2)=.error 2 by rw [Zzc (show isS 1 Xj (.ok r2)=false from hc)];rfl,if_neg (by simp)]
         rfl
       | true =>
         rw [show tkS Xj (.ok r2)=.ok r2.tail by show (if atB 1 Xj r2=true then _ else _)=_;rw [if_pos hc],if_pos rfl];simp only
         cases Zj 4 r2.tail with
         | error y=>rfl
         | ok q =>
           obtain ⟨t,r3⟩:=q;simp only
           cases Dh true d r3<;>rfl
def skS (s:ByteArray) (S:StP):StP:=if isS 1 s S=true then tkS s S else S
def nsS (s:ByteArray) (acc:List ByteArray) (S:StP):Except Int (List ByteArray × List Tok):=Zb (Q9 s acc) S
theorem Yl0 (s:ByteArray) (ts:List Tok):skS s (.ok ts)=.ok (Xs 1 s ts):=by
 unfold skS Xs
 by_cases h:atB 1 s ts=true
 · rw [if_pos (show isS 1 s (.ok ts)=true from h),if_pos h]
   show (if atB 1 s ts=true then _ else _)=_;rw [if_pos h]
 · rw [if_neg (show ¬ isS 1 s (.ok ts)=true from h),if_neg h]
theorem Yba (s:ByteArray) (S:StP):Zb (Xl s) S=nsS s [nmV (skS s S)] (nmS (skS s S)):=by
 rcases S with y|ts
 · rfl
 · rw [Yl0]
   show Xl s ts=_;unfold Xl nsS nmS nmV;simp only
   cases Zg (Xs 1 s ts)<;>rfl
theorem Ypo {s:ByteArray} {acc:List ByteArray} {S:StP} (h:isS 1 s S=false):nsS s acc S=F1 (fun _=>acc) (Zb (fun ts=>.ok ((),ts)) S):=by
 rcases S with y|ts
 · rfl
 · have h' : ¬ atB 1 s ts=true:=by
    have:atB 1 s ts=false:=h;rw [this];simp
   show Q9 s acc ts=_;rw [Tl];simp only [ifR];rw [if_neg h']
   rfl
theorem Yli {s:ByteArray} {acc:List ByteArray} {S:StP} (h:isS 1 s S=true):nsS s acc S=nsS s (acc++[nmV (tkS s S)]) (nmS (tkS s S)):=by
 obtain ⟨t,ts,rfl,h2⟩:=Xr h;have h1:atB 1 s (t :: ts)=true:=h;rw [h2]
 show Q9 s acc (t :: ts)=_;rw [Tl];simp only [ifR,h1,if_true,List.tail_cons,nmR,nmS,nmV]
 cases Zg ts<;>rfl
def enS (S:StP):StP:=if (isS 2 Zvm (Yt S) || isS 2 Pl (Yt S) || isS 2 Yai (Yt S))=true then Mp 2 (Yt S) else Yt S
theorem Ydy (n:ByteArray) (h:Jv n.data.toList=true):Nc n=((n.toList == Zvm.toList) || (n.toList == Pl.toList) || (n.toList == Yai.toList)):=by
 unfold Nc Zju;rw [h,show Zvm.toList=St by decide +kernel,show Pl.toList=Md by decide +kernel,show Yai.toList=Rg by decide +kernel,Lib.toList_data n]
 cases (n.data.toList == Rg)<;>cases (n.data.toList == St)<;>cases (n.data.toList == Md)<;>rfl
def enT (us:List Tok):StP:=if (isS 2 Zvm (.ok us) || isS 2 Pl (.ok us) || isS 2 Yai (.ok us))=true then .error 2 else .ok us
theorem Yoy (us:List Tok) (hN:Vq us):nmR (fun n=>if Nc n=true then Ga 2 else Gk n) (Ga 2) us=F1 (fun _=>nmV (enT us)) (Zb (fun ts=>.ok ((),ts)) (nmS (enT us))):=by
 unfold enT;rcases us with _|⟨t,r⟩
 · rfl
 · by_cases h2:t.1=2
   · have hb:=Ydy t.2 (hN t (List.mem_cons_self ..) h2).1
     have e1:∀ s:ByteArray,isS 2 s (.ok (t :: r))=(t.2.toList == s.toList):=fun s=>by
       show (t.1 == 2 && (t.2.toList == s.toList))=_;rw [h2];simp
     rw [e1,e1,e1,← hb];unfold nmR;rw [Xu,if_pos h2];simp only
     by_cases hx:Nc t.2=true
     · rw [if_pos hx,if_pos hx];rfl
     · rw [if_neg hx,if_neg hx]
       simp only [nmS,nmV,Xu,if_pos h2]
       rfl
   · have e1:∀ s:ByteArray,isS 2 s (.ok (t :: r))=false:=fun s=>by
       show (t.1 == 2 && (t.2.toList == s.toList))=_;rw [show (t.1 == 2)=false by simpa using h2];rfl
     rw [e1,e1,e1];unfold nmR;rw [Xu,if_neg h2];simp only [Bool.or_self,Bool.false_eq_true,if_false,nmS,nmV,Xu,if_neg h2]
     rfl
theorem Ypz (ts:List Tok):enS (.ok ts)=enT (U1 ts):=rfl
theorem Yo0 (S:StP) (hN:∀ ts,S=.ok ts→Vq ts):Zb enR S=F1 (fun _=>nmV (enS S)) (Zb (fun ts=>.ok ((),ts)) (nmS (enS S))):=by
 rcases S with y|ts
 · rfl
 · rw [Ypz]
   show enR ts=_;rw [Yoi];exact Yoy (U1 ts) (fun t ht=>hN ts rfl t ((Vd ts).subset ht))
theorem Yk0 {S:StP} (h:isS 2 Gl S=false):Zb Zw S=F1 (fun _=>[]) (Zb (fun ts=>.ok ((),ts)) S):=by
 rcases S with y|ts
 · rfl
 · have h' : ¬ atB 2 Gl ts=true:=by
    have:atB 2 Gl ts=false:=h;rw [this];simp
   show Zw ts=_;unfold Zw;rw [if_neg h'];rfl
theorem Ydm {S:StP} (h:isS 2 Gl S=true):Zb Zw S=Zb (Xl Yi1) (nmS S):=by
 obtain ⟨t,ts,rfl,_,e⟩:=Gu (Wd h);have h1:atB 2 Gl (t :: ts)=true:=h;rw [e]
 show Zw (t :: ts)=_;unfold Zw;rw [if_pos h1];rfl
def Ni (d:Nat) (k:Int):Rdr Ih:=nmR (Uk d k) (Ga 2)
theorem Zxh {α:Type} (s:ByteArray) (p:Rdr α) (S:StP):Zb (ifR 1 s p (Ga 2)) S=Zb p (tkS s S):=by
 rcases S with y|ts
 · rfl
 · show ifR 1 s p (Ga 2) ts=Zb p (if atB 1 s ts=true then .ok ts.tail else .error 2)
   unfold ifR
   split<;>rfl
theorem Zks {α:Type} (p:ByteArray→Rdr α) (S:StP):Zb (nmR p (Ga 2)) S=Zb (p (nmV S)) (nmS S):=by
 rcases S with y|ts
 · rfl
 · show nmR p (Ga 2) ts=_
   unfold nmR nmS nmV;simp only
   cases Zg ts<;>rfl
theorem Rv {α β:Type} (p:Rdr α) (f:α→β) (S:StP):Zb (Ym p fun a=>Gk (f a)) S=F1 f (Zb p S):=by
 rcases S with y|ts
 · rfl
 · show Ym p (fun a=>Gk (f a)) ts=F1 f (p ts)
   unfold Ym
   cases p ts<;>rfl
theorem Ybs {d:Nat} {k:Int} (hk:k=1∨k=2) (S:StP):Zb (Ni d k) S=F1 (fun l=>⟨k,nmV S,Ul [] (Zb Zw (nmS S)),l,[],[]⟩) (Zb (N7 (fdR d) V8 cmB []) (tkS omB (Xb (Zb Zw (nmS S))))):=by
 unfold Ni;rw [Zks,Ru];unfold Zyc;rw [if_pos hk];rcases nmS S with y|ts
 · rfl
 · show Ym Zw _ ts=_
   unfold Ym;simp only [Zb]
   cases Zw ts with
   | error y=>rfl
   | ok q =>
     obtain ⟨fs,r⟩:=q;simp only [Xb,Ul];exact (Zxh omB _ (.ok r)).trans (Rv _ _ _)
theorem Ybl {d:Nat} (S:StP):Zb (Ni d 3) S=F1 (fun l=>⟨3,nmV S,[],[],l,[]⟩) (Zb (Xl Yk2) (tkS eqB (nmS S))):=by
 unfold Ni;rw [Zks,Ru];unfold Zyc;rw [if_neg (by decide),if_pos rfl,Zxh,Rv]
theorem Yj7 {d:Nat} (S:StP):Zb (Ni d 4) S=F1 (fun l=>⟨4,nmV S,[],[],l,[]⟩) (Zb (N7 enR V8 cmB []) (tkS omB (nmS S))):=by
 unfold Ni;rw [Zks,Ru];unfold Zyc;rw [if_neg (by decide),if_neg (by decide),if_pos rfl,Zxh,Rv]
theorem Yfl {d:Nat} (S:StP):Zb (Ni d 5) S=F1 (fun l=>⟨5,nmV S,[],[],[],l⟩) (Zb (N7 (W4 d) V8 cmB []) (tkS omB (nmS S))):=by
 unfold Ni;rw [Zks,Ru];unfold Zyc;rw [if_neg (by decide),if_neg (by decide),if_neg (by decide),Zxh,Rv]
def Zzv (s:ByteArray) (S:StP):StP:=if isS 2 s S=true then S else Mp 2 S
def rtQ (S:StP):StP:=tkS Xj (nmS (Zzv Gh (tkS omB S)))
theorem Zke (s:ByteArray) (S:StP):nmS (Zzv s S)=(match S with | .ok ts=>if atB 2 s ts=true then .ok ts.tail else .error 2 | .error y=>.error y):=by
 unfold Zzv;rcases S with y|ts
 · rw [if_neg (by simp [isS])];rfl
 · by_cases h:atB 2 s ts=true
   · rw [if_pos (show isS 2 s (.ok ts)=true from h)]
     obtain ⟨t,us,e,_,e2⟩:=Gu (Wd (show isS 2 s (.ok ts)=true from h));have e:=Except.ok.inj e;subst e;rw [e2];simp only;rw [if_pos h];rfl
   · rw [if_neg (show ¬ isS 2 s (.ok ts)=true from h)]
     simp only;rw [if_neg h];rfl
theorem Ygz {S:StP} (h:isS 2 Yau (nmS (rtQ S))=false):Zb Yp S=F1 (fun _=>(nmV (rtQ S),eB)) (Zb (fun ts=>.ok ((),ts)) (tkS cmB (nmS (rtQ S)))):=by
 rcases S with y|ts
 · rfl
 · show Yp ts=_
   unfold rtQ at h ⊢;rw [Zke] at h ⊢;unfold Yp;simp only [tkS] at h ⊢
   by_cases h0:atB 1 omB ts=true
   · rw [if_pos h0] at h ⊢
     rw [if_pos h0];simp only at h ⊢
     by_cases h1:atB 2 Gh ts.tail=true
     · rw [if_pos h1] at h ⊢
       rw [if_pos h1];simp only at h ⊢
       by_cases h2:atB 1 Xj ts.tail.tail=true
       · rw [if_pos h2] at h ⊢
         rw [if_pos h2];simp only [nmS,nmV] at h ⊢
         cases hn:Zg ts.tail.tail.tail with
         | none=>rfl
         | some q =>
           obtain ⟨n,r⟩:=q;rw [hn] at h
           have h3 : ¬ atB 2 Yau r=true:=by
             have:atB 2 Yau r=false:=h;rw [this];simp
           simp only [Ql];rw [if_neg h3];simp only
           by_cases h4:atB 1 cmB r=true
           · rw [if_pos h4,if_pos h4];rfl
           · rw [if_neg h4,if_neg h4];rfl
       · rw [if_neg h2,if_neg h2];rfl
     · rw [if_neg h1,if_neg h1];rfl
   · rw [if_neg h0,if_neg h0];rfl
theorem Ymz {t:Tok} {us:List Tok} (h:atB 2 Yau (t :: us)=true):Ql (t :: us)=if atB 1 Xj us=true then (match Zg us.tail with|none=>.error 2|some (m,r)=>.ok (m,r)) else .error 2:=by
 unfold Ql;rw [if_pos h];rfl
theorem Ye2 {S : StP} (h:isS 2 Yau (nmS (rtQ S))=true):Zb Yp S=F1 (fun _=>(nmV (rtQ S),nmV (tkS Xj (nmS (nmS (rtQ S)))))) (Zb (fun ts=>.ok ((),ts)) (tkS cmB (nmS (tkS Xj (nmS (nmS (rtQ S))))))):=by
 rcases S with y|ts
 · cases h
 · show Yp ts=_
   unfold rtQ at h ⊢;rw [Zke] at h ⊢;unfold Yp;simp only [tkS] at h ⊢
   by_cases h0:atB 1 omB ts=true
   · rw [if_pos h0] at h ⊢
     rw [if_pos h0];simp only at h ⊢
     by_cases h1:atB 2 Gh ts.tail=true
     · rw [if_pos h1] at h ⊢
       rw [if_pos h1];simp only at h ⊢
       by_cases h2:atB 1 Xj ts.tail.tail=true
       · rw [if_pos h2] at h ⊢
         rw [if_pos h2];simp only [nmS,nmV] at h ⊢
         cases hn:Zg ts.tail.tail.tail with
         | none=>rw [hn] at h;cases h
         | some q =>
           obtain ⟨n,r⟩:=q;rw [hn] at h;have h3:atB 2 Yau r=true:=h;obtain ⟨t,us,e,_,e2⟩:=Gu (Wd (show isS 2 Yau (.ok r)=true from h3));have e:=Except.ok.inj e;subst e
           have e3:Zg (t :: us)=some (t.2,us):=by
             unfold nmS at e2;simp only at e2;rw [Xu] at e2 ⊢
             by_cases ht:t.1=2
             · rw [if_pos ht]
             · rw [if_neg ht] at e2;cases e2
           dsimp only
           rw [Ymz h3,e3]
           dsimp only
           cases h5:atB 1 Xj us with
           | true =>
             simp only [if_true]
             cases Zg us.tail with
             | none=>rfl
             | some q =>
               obtain ⟨m,r2⟩:=q;simp only
               cases h4:atB 1 cmB r2 with
               | true=>simp only [if_true];rfl
               | false=>simp only [Bool.false_eq_true,if_false];rfl
           | false=>simp only [Bool.false_eq_true,if_false];rfl
       · rw [if_neg h2] at h;cases h
     · rw [if_neg h1] at h;cases h
   · rw [if_neg h0] at h;cases h
variable {nT:Nat}
theorem Yh4 (r d:Nat) (S:StP) (w:World) (h:RP nT w r d S):Calls Tryz.prog 11 #[.pointer (some ⟨r,0,none⟩)] w fun e w'=>e=.returned (.tuple #[])∧RP nT w' r d (Yt S)∧Z0 r w w':=by
 have hfl:∀ (k:Int) (s:ByteArray) (w:World),(Instr.field 45 (.agg #[.int .i64 k,.string s]) 0).run Tryz.prog w=.ok (.int .i64 k) w:=fun _ _ _=>by kernel_rfl
 have HP:=Hd (Lz r d S w h);have H:=Hd h
 cases hb:((X3 S).1 == 5) with
 | false =>
   have HT:=Hd (Yos hb);obtain ⟨q,hq⟩:∃ q,X3 S=q:=⟨_,rfl⟩;rw [hq] at HP hb;clear hq h;obtain ⟨tk,tx⟩:=q
   dsimp only at HP hb
   go_enter Tryz.func11,Tryz.ntmps11
   go_wp2_with fail
   refine HP.out.mono ?_;rintro e w1 ⟨rfl,hb1⟩;have B2:=Hd hb1;clear hb1;go_wp2_with fail
   go_end0
   exact ⟨rfl,by rw [HT.out];exact H.out.below B2.out,Z0.of_below B2.out⟩
 | true =>
   obtain ⟨t,ts,rfl,e1⟩:=Ync hb;have HT:=Hd e1;obtain ⟨tk,tx⟩:=t;have hne:(tk == 5)=true:=hb;have HP:=Hd (show Calls Tryz.prog 12 #[.pointer (some ⟨r,0,none⟩)] w fun e w'=>e=.returned (.agg #[.int .i64 tk,.string tx])∧Below w.heap.size w w' from HP.out);clear hb h e1
   go_enter Tryz.func11,Tryz.ntmps11
   go_wp2_with fail
   refine HP.out.mono ?_;rintro e w1 ⟨rfl,hb1⟩;have B2:=Hd hb1;have H1:=Hd (H.out.below B2.out);have hr:=H.out.lt;have hs:=hb1.size;obtain ⟨A,n,c,p,dd,x0,h0,h1,h2⟩:=H1.out.cells;have h9:=Hd h0;obtain ⟨c0,c1,c2,c3,cz⟩:=Zh h0;have z1:=cz 1;clear cz hb1 h0;go_wp2_with fail
   go_end0
   exact ⟨rfl,by rw [HT.out];exact H1.out.advance h9.out,(Z0.of_below B2.out).trans Z0.set⟩
theorem S4 {S:StP} (hG:∀ ts,S=.ok ts→Zs ts):∀ ts,Yt S=.ok ts→Zs ts:=fun ts e=>by
 obtain ⟨us,e1,s1⟩:=Sd e;exact Jr s1 (hG us e1)
theorem Yeo {S:StP} {n:Nat} (hL:∀ ts,S=.ok ts→ts.length≤n):∀ ts,Yt S=.ok ts→ts.length≤n:=fun ts e=>by
 obtain ⟨us,e1,s1⟩:=Sd e;exact Nat.le_trans s1.length_le (hL us e1)
theorem Gg {S:StP} {n:Nat} (hL:∀ ts,S=.ok ts→ts.length≤n):∀ ts,nmS S=.ok ts→ts.length≤n:=fun ts e=>by
 obtain ⟨us,e1,s1,_⟩:=L7 e;exact Nat.le_trans s1.length_le (hL us e1)
theorem Be {s:ByteArray} {S:StP} {n:Nat} (hL:∀ ts,S=.ok ts→ts.length≤n):∀ ts,tkS s S=.ok ts→ts.length≤n:=fun ts e=>by
 obtain ⟨us,e1,s1,_⟩:=Cs e;exact Nat.le_trans s1.length_le (hL us e1)
theorem Qq {α:Type} {p:Rdr α} (hp:Suf p) {S:StP} (hG:∀ ts,S=.ok ts→Zs ts):∀ ts,Xb (Zb p S)=.ok ts→Zs ts:=fun ts e=>by
 obtain ⟨a,e1,_⟩:=Of e;obtain ⟨vs,e2,h⟩:=Cu e1;exact Jr (hp _ _ _ h) (hG _ e2)
theorem Zkd {α:Type} {p:Rdr α} (hp:Suf p) {S:StP} {n:Nat} (hL:∀ ts,S=.ok ts→ts.length≤n):∀ ts,Xb (Zb p S)=.ok ts→ts.length≤n:=fun ts e=>by
 obtain ⟨a,e1,_⟩:=Of e;obtain ⟨vs,e2,h⟩:=Cu e1;exact Nat.le_trans (hp _ _ _ h).length_le (hL _ e2)
abbrev paZ:List Value:=[.string ⟨#[]⟩,.string ⟨#[]⟩,.int .i64 0,.int .i64 0,.bool false,.int .i64 0,.int .i64 0,.string ⟨#[]⟩,.slice none 0 0,.slice none 0 0]
def Yqc (nT:Nat) (d r:Nat) (S:StP) (w:World) (e:Ending) (w':World):Prop:=∃ (nm n:ByteArray) (tl tm:Int) (hs:Bool) (vk vn:Int) (vs:ByteArray) (A3:Option Addr) (n3 k3:Nat) (A4:Option Addr) (n4 k4:Nat),e=.returned (.agg #[.string nm,.string n,.int .i64 tl,.int .i64 tm,.bool hs,.int .i64 vk,.int .i64 vn,.string vs,.slice A3 n3 k3,.slice A4 n4 k4])∧Ans Zk w w' (Zb (W4 d) S) [.string nm,.string n,.int .i64 tl,.int .i64 tm,.bool hs,.int .i64 vk,.int .i64 vn,.string vs,.slice A3 n3 k3,.slice A4 n4 k4]∧RP nT w' r d (Xb (Zb (W4 d) S))∧Z0 r w w'
theorem Yps (d r:Nat) (S:StP) (w:World) (hG:∀ ts,S=.ok ts→Zs ts) (hL:∀ ts,S=.ok ts→ts.length≤200000) (hd:d≤16) (h:RP nT w r d S):Calls Tryz.prog 69 #[.pointer (some ⟨r,0,none⟩)] w (Yqc nT d r S w):=by
 have HD:=Hd hd;have K00:=Hd (Q0.start h #[.string ⟨#[]⟩,.string ⟨#[]⟩,.int .i64 0,.int .i64 0,.bool false,.int .i64 0,.int .i64 0,.string ⟨#[]⟩,.slice none 0 0,.slice none 0 0] 96);have HS:=Hd (Yh4 r d S _ K00.out.rd);have HG1:=Hd (S4 hG);have NS1:=Hd (Vh HG1.out);have HG3:Hid (∀ us,(tkS Xj (nmS (Yt S)))=.ok us→Zs us):=Hd (Uj (I5 HG1.out));have HL3:Hid (∀ us,(tkS Xj (nmS (Yt S)))=.ok us→us.length≤200000):=Hd (Be (Gg (Yeo hL)));clear h hd hG hL
 go_enter Tryz.func69,Tryz.ntmps69
 go_wp2_with fail
 refine HS.out.mono ?_;rintro e wa ⟨rfl,ha,ma⟩;have K01:=Hd (K00.out.next ha ma);have NB:=Hd (Uu r d _ _ K01.out.rd);clear ha ma HS K00;go_wp2_with fail
 refine NB.out.mono ?_;rintro e wb ⟨rfl,hb,mb⟩;have K02:=Hd (K01.out.next hb mb);have K0:=Hd (Q1.make K02.out #[.string (nmV (Yt S)),.string ⟨#[]⟩,.int .i64 0,.int .i64 0,.bool false,.int .i64 0,.int .i64 0,.string ⟨#[]⟩,.slice none 0 0,.slice none 0 0] 96);have TC:=Hd (J1 r d _ Xj _ K0.out.rd);clear hb mb NB K01 K02;go_wp2_with fail
 refine TC.out.mono ?_;rintro e wc ⟨rfl,hc1,mc⟩;have K1:=Hd (K0.out.next hc1 mc);have TY:=Hd (Yqg 4 (Nat.le_refl _) r d _ _ K1.out.rd);clear hc1 mc TC K0;go_wp2_with fail
 refine TY.out.mono ?_;rintro e wd ⟨n,tl,tm,rfl,hnb,hx,hd1,md⟩;have K2:=Hd (K1.out.next hd1 md);have NT:=Hd (hnb 9000 (fun us e t ht=>(HG3.out us e t ht).1));have HX:=Hd hx;obtain ⟨y0,y1,y2,y3,y4,y5,y6,y7,y8,y9,yz⟩:=X9 K2.out.loc;have yf1:=yz 1;have yf2:=yz 2;have yf3:=yz 3;have K3:Hid (Q1 nT w r (((wd.setCell ⟨wb.heap.size,1,none⟩ (.string n)).setCell ⟨wb.heap.size,2,none⟩ (.int .i64 tl)).setCell ⟨wb.heap.size,3,none⟩ (.int .i64 tm)) (.cells #[.string ⟨#[]⟩,.string ⟨#[]⟩,.int .i64 0,.int .i64 0,.bool false,.int .i64 0,.int .i64 0,.string ⟨#[]⟩,.slice none 0 0,.slice none 0 0] 96 (0,0)) wb.heap.size (.cells #[.string (nmV (Yt S)),.string n,.int .i64 tl,.int .i64 tm,.bool false,.int .i64 0,.int .i64 0,.string ⟨#[]⟩,.slice none 0 0,.slice none 0 0] 96 (0,0)) (Xb (Zb (Zj 4) (tkS Xj (nmS (Yt S))))) d):=Hd (((K2.out.put 1 (.string n)).put 2 (.int .i64 tl)).put 3 (.int .i64 tm));have HQ:=Hd (ris r d (Xb (Zb (Zj 4) (tkS Xj (nmS (Yt S))))) eqB _ K3.out.rd);clear hd1 md hnb hx yz TY K1 K2;go_wp2_with fail
 clear y0 y1 y2 y3 y4 y5 y6 y7 y8 y9 yf1 yf2 yf3
 cases hq:isS 1 eqB (Xb (Zb (Zj 4) (tkS Xj (nmS (Yt S))))) with
 | false =>
   rw [hq] at HQ;have HV:=Hd ((Ycs d S).trans (Yih d (Yt S) hq));refine HQ.out.mono ?_;rintro e we ⟨rfl,hbe⟩;have KE:Hid (Q1 nT w r we (.cells #[.string ⟨#[]⟩,.string ⟨#[]⟩,.int .i64 0,.int .i64 0,.bool false,.int .i64 0,.int .i64 0,.string ⟨#[]⟩,.slice none 0 0,.slice none 0 0] 96 (0,0)) wb.heap.size (.cells #[.string (nmV (Yt S)),.string n,.int .i64 tl,.int .i64 tm,.bool false,.int .i64 0,.int .i64 0,.string ⟨#[]⟩,.slice none 0 0,.slice none 0 0] 96 (0,0)) (Xb (Zb (W4 d) S)) d):=Hd (by rw [HV.out,Y4];exact K3.out.next (K3.out.rd.below hbe) (Z0.of_below hbe));clear hbe hq HQ K3;obtain ⟨x0,x1,x2,x3,x4,x5,x6,x7,x8,x9,xz⟩:=X9 KE.out.loc;obtain ⟨q0,q1,q2,q3,q4,q5,q6,q7,q8,q9,qz⟩:=X9 KE.out.res;have qf0:=qz 0;have qf1:=qz 1;have qf2:=qz 2;have qf3:=qz 3;have qf4:=qz 4;have qf5:=qz 5;have qf6:=qz 6;have qf7:=qz 7;have qf8:=qz 8;have qf9:=qz 9;clear xz qz;go_wp2_with fail
   have F:=KE.out.fin (ys:=paZ) [.string (nmV (Yt S)),.string n,.int .i64 tl,.int .i64 tm,.bool false,.int .i64 0,.int .i64 0,.string ⟨#[]⟩,.slice none 0 0,.slice none 0 0] rfl;refine Y6 (cs:=[.string (nmV (Yt S)),.string n,.int .i64 tl,.int .i64 tm,.bool false,.int .i64 0,.int .i64 0,.string ⟨#[]⟩,.slice none 0 0,.slice none 0 0]) rfl rfl rfl F.1 Tryz.underlying96 ⟨_,rfl⟩ (by kernel_rfl) ?_;have TSX:TS (setAll we w.heap.size 0 [.string (nmV (Yt S)),.string n,.int .i64 tl,.int .i64 tm,.bool false,.int .i64 0,.int .i64 0,.string ⟨#[]⟩,.slice none 0 0,.slice none 0 0]) (Y7 w (setAll we w.heap.size 0 [.string (nmV (Yt S)),.string n,.int .i64 tl,.int .i64 tm,.bool false,.int .i64 0,.int .i64 0,.string ⟨#[]⟩,.slice none 0 0,.slice none 0 0])) (.cons (.one (.string (nmV (Yt S)))) (.cons (.one (.string n)) (.cons (.one (.int .i64 tl)) (.cons (.one (.int .i64 tm)) (.cons (.one (.bool false)) (M9 Qf)))))) [.string (nmV (Yt S)),.string n,.int .i64 tl,.int .i64 tm,.bool false,.int .i64 0,.int .i64 0,.string ⟨#[]⟩,.slice none 0 0,.slice none 0 0]:=TS.str NS1.out (TS.str NT.out (TS.int (TS.int (TS.bool (Ye9 _ _)))));refine ⟨_,_,_,_,_,_,_,_,_,_,_,_,_,_,rfl,⟨(.cons (.one (.string (nmV (Yt S)))) (.cons (.one (.string n)) (.cons (.one (.int .i64 tl)) (.cons (.one (.int .i64 tm)) (.cons (.one (.bool false)) (M9 Qf)))))),TSX,fun a us e=>?_⟩,F.2.1,F.2.2⟩;rw [HV.out] at e;obtain ⟨t,e2,rfl⟩:=Vg e;obtain ⟨v1,v2,v3⟩:=HX.out t us e2;rw [v1,v2,v3]
   rfl
 | true =>
   rw [hq] at HQ;have HV:=Hd ((Ycs d S).trans (Yef d (Yt S) hq));refine HQ.out.mono ?_;rintro e we ⟨rfl,hbe⟩;have K4:=Hd (K3.out.next (K3.out.rd.below hbe) (Z0.of_below hbe));have TE:=Hd (J1 r d _ eqB _ K4.out.rd);clear hbe hq HQ K3;go_wp2_with fail
   refine TE.out.mono ?_;rintro e wf ⟨rfl,hf1,mf⟩;have K5:=Hd (K4.out.next hf1 mf);have VV:=Hd ((Yp1 200000).1 true d (tkS eqB (Xb (Zb (Zj 4) (tkS Xj (nmS (Yt S)))))) r _ (Uj (Qq (Rz 4).suf HG3.out)) (Be (Zkd (Rz 4).suf HL3.out)) HD.out K5.out.rd);clear hf1 mf TE K4;go_wp2_with fail
   refine VV.out.mono ?_;rintro e wg ⟨vk,vn,vs,A3,n3,k3,A4,n4,k4,rfl,⟨x,hts,hxv⟩,hg9,mg⟩;have K6:=Hd (K5.out.next hg9 mg);have O6:=Hd (OvS.of hts K5.out.blt);have HXV:=Hd hxv;obtain ⟨y0,y1,y2,y3,y4,y5,y6,y7,y8,y9,yz⟩:=X9 K6.out.loc;have yf4:=yz 4;have yf5:=yz 5;have yf6:=yz 6;have yf7:=yz 7;have yf8:=yz 8;have yf9:=yz 9;have K7:Hid (Q1 nT w r (wg.setCell ⟨wb.heap.size,4,none⟩ (.bool true)) (.cells #[.string ⟨#[]⟩,.string ⟨#[]⟩,.int .i64 0,.int .i64 0,.bool false,.int .i64 0,.int .i64 0,.string ⟨#[]⟩,.slice none 0 0,.slice none 0 0] 96 (0,0)) wb.heap.size (.cells #[.string (nmV (Yt S)),.string n,.int .i64 tl,.int .i64 tm,.bool true,.int .i64 0,.int .i64 0,.string ⟨#[]⟩,.slice none 0 0,.slice none 0 0] 96 (0,0)) (Xb (Zb (Im true d) (tkS eqB (Xb (Zb (Zj 4) (tkS Xj (nmS (Yt S)))))))) d):=Hd (K6.out.put 4 (.bool true));have KE:Hid (Q1 nT w r ((((((wg.setCell ⟨wb.heap.size,4,none⟩ (.bool true)).setCell ⟨wb.heap.size,5,none⟩ (.int .i64 vk)).setCell ⟨wb.heap.size,6,none⟩ (.int .i64 vn)).setCell ⟨wb.heap.size,7,none⟩ (.string vs)).setCell ⟨wb.heap.size,8,none⟩ (.slice A3 n3 k3)).setCell ⟨wb.heap.size,9,none⟩ (.slice A4 n4 k4)) (.cells #[.string ⟨#[]⟩,.string ⟨#[]⟩,.int .i64 0,.int .i64 0,.bool false,.int .i64 0,.int .i64 0,.string ⟨#[]⟩,.slice none 0 0,.slice none 0 0] 96 (0,0)) wb.heap.size (.cells #[.string (nmV (Yt S)),.string n,.int .i64 tl,.int .i64 tm,.bool true,.int .i64 vk,.int .i64 vn,.string vs,.slice A3 n3 k3,.slice A4 n4 k4] 96 (0,0)) (Xb (Zb (W4 d) S)) d):=Hd (by rw [HV.out,Y4];exact (((((K7.out.put 5 (.int .i64 vk)).put 6 (.int .i64 vn)).put 7 (.string vs)).put 8 (.slice A3 n3 k3)).put 9 (.slice A4 n4 k4)));have O7:=Hd ((((((O6.out.put (Nat.le_refl _) (i:=4) (v:=.bool true)).put (Nat.le_refl _) (i:=5) (v:=.int .i64 vk)).put (Nat.le_refl _) (i:=6) (v:=.int .i64 vn)).put (Nat.le_refl _) (i:=7) (v:=.string vs)).put (Nat.le_refl _) (i:=8) (v:=.slice A3 n3 k3)).put (Nat.le_refl _) (i:=9) (v:=.slice A4 n4 k4));clear hts hxv hg9 mg yz VV K5 K6 K7 O6
   go_upto_region 8 with fail
   clear y0 y1 y2 y3 y4 y5 y6 y7 y8 y9 yf4 yf5 yf6 yf7 yf8 yf9;generalize (((((wg.setCell ⟨wb.heap.size,4,none⟩ (.bool true)).setCell ⟨wb.heap.size,5,none⟩ (.int .i64 vk)).setCell ⟨wb.heap.size,6,none⟩ (.int .i64 vn)).setCell ⟨wb.heap.size,7,none⟩ (.string vs)).setCell ⟨wb.heap.size,8,none⟩ (.slice A3 n3 k3)).setCell ⟨wb.heap.size,9,none⟩ (.slice A4 n4 k4)=we2 at KE O7 ⊢;obtain ⟨x0,x1,x2,x3,x4,x5,x6,x7,x8,x9,xz⟩:=X9 KE.out.loc;obtain ⟨q0,q1,q2,q3,q4,q5,q6,q7,q8,q9,qz⟩:=X9 KE.out.res;have qf0:=qz 0;have qf1:=qz 1;have qf2:=qz 2;have qf3:=qz 3;have qf4:=qz 4;have qf5:=qz 5;have qf6:=qz 6;have qf7:=qz 7;have qf8:=qz 8;have qf9:=qz 9;clear xz qz;go_wp2_with fail
   have F:=KE.out.fin (ys:=paZ) [.string (nmV (Yt S)),.string n,.int .i64 tl,.int .i64 tm,.bool true,.int .i64 vk,.int .i64 vn,.string vs,.slice A3 n3 k3,.slice A4 n4 k4] rfl;refine Y6 (cs:=[.string (nmV (Yt S)),.string n,.int .i64 tl,.int .i64 tm,.bool true,.int .i64 vk,.int .i64 vn,.string vs,.slice A3 n3 k3,.slice A4 n4 k4]) rfl rfl rfl F.1 Tryz.underlying96 ⟨_,rfl⟩ (by kernel_rfl) ?_;have TSX:TS (setAll we2 w.heap.size 0 [.string (nmV (Yt S)),.string n,.int .i64 tl,.int .i64 tm,.bool true,.int .i64 vk,.int .i64 vn,.string vs,.slice A3 n3 k3,.slice A4 n4 k4]) (Y7 w (setAll we2 w.heap.size 0 [.string (nmV (Yt S)),.string n,.int .i64 tl,.int .i64 tm,.bool true,.int .i64 vk,.int .i64 vn,.string vs,.slice A3 n3 k3,.slice A4 n4 k4])) (.cons (.one (.string (nmV (Yt S)))) (.cons (.one (.string n)) (.cons (.one (.int .i64 tl)) (.cons (.one (.int .i64 tm)) (.cons (.one (.bool true)) x))))) [.string (nmV (Yt S)),.string n,.int .i64 tl,.int .i64 tm,.bool true,.int .i64 vk,.int .i64 vn,.string vs,.slice A3 n3 k3,.slice A4 n4 k4]:=TS.str NS1.out (TS.str NT.out (TS.int (TS.int (TS.bool (O7.out.fin (w:=w) (Nat.le_of_lt KE.out.bl) [.string (nmV (Yt S)),.string n,.int .i64 tl,.int .i64 tm,.bool true,.int .i64 vk,.int .i64 vn,.string vs,.slice A3 n3 k3,.slice A4 n4 k4])))));refine ⟨_,_,_,_,_,_,_,_,_,_,_,_,_,_,rfl,⟨(.cons (.one (.string (nmV (Yt S)))) (.cons (.one (.string n)) (.cons (.one (.int .i64 tl)) (.cons (.one (.int .i64 tm)) (.cons (.one (.bool true)) x))))),TSX,fun a us e=>?_⟩,F.2.1,F.2.2⟩;rw [HV.out] at e;obtain ⟨v,e2,rfl⟩:=Vg e;obtain ⟨us2,e3,_⟩:=Cu e2;obtain ⟨us3,e4⟩:=Zxg e3;obtain ⟨t,e5,hz⟩:=Of e4;obtain ⟨v1,v2,v3⟩:=HX.out t us3 e5;rw [v1,v2,v3,HXV.out v us e2,hz]
   rfl
variable {nT:Nat}
structure StB (B r q:Nat) (w w':World):Prop where
 os:w'.os=w.os
 tape:w'.tape=w.tape
 output:w'.output=w.output
 size:w.heap.size≤w'.heap.size
 block:∀ k,k < B→k ≠ r→k ≠ q→w'.heap[k]? = w.heap[k]?
theorem StB.of {B r q:Nat} {w w':World} (m:Z0 r w w') (hB:B≤w.heap.size):StB B r q w w':=⟨m.os,m.tape,m.output,m.size,fun k hk hr _=>m.block k (Nat.lt_of_lt_of_le hk hB) (fun e=>hr (by injection e))⟩
theorem StB.trans {B r q:Nat} {w w1 w2:World} (h:StB B r q w w1) (h':StB B r q w1 w2):StB B r q w w2:=
 ⟨h'.os.trans h.os,h'.tape.trans h.tape,h'.output.trans h.output,Nat.le_trans h.size h'.size,fun k hk hr hq=>(h'.block k hk hr hq).trans (h.block k hk hr hq)⟩
theorem StB.put {B r q i:Nat} {w w1:World} {v:Value} (h:StB B r q w w1):StB B r q w (w1.setCell ⟨q,i,none⟩ v):=
 ⟨h.os,h.tape,h.output,by have:=h.size;simpa [World.setCell] using this,fun k hk hr hq=>(Below.heap_setCell _ _ _ _ hq).trans (h.block k hk hr hq)⟩
structure QS (nT:Nat) (w:World) (r q:Nat) (W:World) (V:Value) (a b:ByteArray) (S:StP):Prop where
 loc:W.heap[q]? = some (Zzy V a b)
 st:StB w.heap.size r q w W
 rq:r < q
 ql:q < w.heap.size
 rd:RP nT W r 0 S
theorem QS.next {w:World} {r q:Nat} {W W':World} {V:Value} {a b:ByteArray} {S S':StP} (h:QS nT w r q W V a b S) (rd:RP nT W' r 0 S') (m:Z0 r W W'):QS nT w r q W' V a b S':=
 ⟨m.keep h.loc (by have:=h.rq;omega),h.st.trans (StB.of m h.st.size),h.rq,h.ql,rd⟩
theorem QS.put1 {w:World} {r q:Nat} {W:World} {V:Value} {a b:ByteArray} {S:StP} (h:QS nT w r q W V a b S) (v:ByteArray):QS nT w r q (W.setCell ⟨q,1,none⟩ (.string v)) V v b S:=
 ⟨heap_setCell_same _ _ 1 _ _ _ h.loc,h.st.put,h.rq,h.ql,h.rd.set h.rq⟩
theorem QS.put2 {w:World} {r q:Nat} {W:World} {V:Value} {a b:ByteArray} {S:StP} (h:QS nT w r q W V a b S) (v:ByteArray):QS nT w r q (W.setCell ⟨q,2,none⟩ (.string v)) V a v S:=
 ⟨heap_setCell_same _ _ 2 _ _ _ h.loc,h.st.put,h.rq,h.ql,h.rd.set h.rq⟩
def Yqq (nT:Nat) (r q:Nat) (V:Value) (S:StP) (w:World) (e:Ending) (w':World):Prop:=e=.returned (.tuple #[])∧∃ a b:ByteArray,QS nT w r q w' V a b (Xb (Zb Yp S))∧a.size≤9000∧b.size≤9000∧∀ p us,Zb Yp S=.ok (p,us)→a=p.1∧b=p.2
theorem Yo8 (r q:Nat) (S:StP) (V:Value) (a:ByteArray) (w:World) (hG:∀ ts,S=.ok ts→Zs ts) (hrq:r < q) (hl:w.heap[q]? = some (Zzy V a eB)) (h:RP nT w r 0 S):Calls Tryz.prog 16 #[.pointer (some ⟨r,0,none⟩),.pointer (some ⟨q,0,none⟩)] w (Yqq nT r q V S w):=by
 have hql:=(Array.getElem?_eq_some_iff.1 hl).1;have K0:Hid (QS nT w r q w V a eB S):=Hd ⟨hl,StB.of (Z0.refl _ _) (Nat.le_refl _),hrq,hql,h⟩;have HG:=Hd hG;have T1:=Hd (J1 r 0 S omB w h);clear hl h hG hrq hql
 go_enter Tryz.func16,Tryz.ntmps16
 go_wp2_with fail
 refine T1.out.mono ?_;rintro e w1 ⟨rfl,h1,m1⟩;have K1:=Hd (K0.out.next h1 m1);have SY:=Hd (Tx r 0 _ Gh w1 K1.out.rd);clear h1 m1 T1 K0;go_wp2_with fail
 refine SY.out.mono ?_;rintro e w2 ⟨rfl,hb2⟩;have K2:=Hd (K1.out.next (K1.out.rd.below hb2) (Z0.of_below hb2));clear hb2 SY K1;refine Or.elim (Bool.eq_false_or_eq_true (isS 2 Gh (tkS omB S))) (fun hc=>?_) (fun hc=>?_)
 focus
  rw [hc];have K3:Hid (QS nT w r q w2 V a eB (Zzv Gh (tkS omB S))):=Hd (by unfold Zzv;rw [if_pos hc];exact K2.out);have NI:=Hd (Uu r 0 _ _ K3.out.rd);clear hc K2;go_wp2_with fail
  generalize w2=wa at K3 NI ⊢
 rotate_left
 focus
  rw [hc];have HF:=Hd (N3 r 0 _ 2 (by decide) w2 K2.out.rd);go_wp2_with fail
  refine HF.out.mono ?_;rintro e w3 ⟨rfl,h3,m3⟩;have K3:Hid (QS nT w r q w3 V a eB (Zzv Gh (tkS omB S))):=Hd (by unfold Zzv;rw [if_neg (by rw [hc];simp)];exact K2.out.next h3 m3);have NI:=Hd (Uu r 0 _ _ K3.out.rd);clear hc K2 h3 m3 HF;go_wp2_with fail
  generalize w3=wa at K3 NI ⊢
 all_goals
  refine NI.out.mono ?_;rintro e w4 ⟨rfl,h4,m4⟩;have K4:=Hd (K3.out.next h4 m4);have TC:=Hd (J1 r 0 _ Xj _ K4.out.rd);clear h4 m4 NI K3;go_wp2_with fail
  refine TC.out.mono ?_;rintro e w5 ⟨rfl,h5,m5⟩;have K5:Hid (QS nT w r q w5 V a eB (rtQ S)):=Hd (K4.out.next h5 m5)
  have HGQ:Hid (∀ us,rtQ S=.ok us→Zs us):=Hd (Uj (fun us e=>by
    rw [Zke] at e;rcases hS:tkS omB S with y|ts
    · rw [hS] at e;cases e
    · rw [hS] at e
      simp only at e
      split at e
      · have e:=Except.ok.inj e
        subst e;exact Jr (List.tail_suffix _) (Uj HG.out ts hS)
      · cases e))
  have NQ:=Hd (Vh HGQ.out);have NB:=Hd (Uu r 0 _ _ K5.out.rd);clear h5 m5 TC K4;go_wp2_with fail
  refine NB.out.mono ?_;rintro e w6 ⟨rfl,h6,m6⟩;have K6:=Hd (K5.out.next h6 m6);obtain ⟨y0,y1,y2,yz⟩:=Zf K6.out.loc;have yf1:=yz 1;have K7:=Hd (K6.out.put1 (nmV (rtQ S)));have SM:=Hd (Tx r 0 _ Yau _ K7.out.rd);clear h6 m6 NB K5 K6 yz;go_wp2_with fail
  clear y0 y1 y2 yf1;refine SM.out.mono ?_;rintro e w8 ⟨rfl,hb8⟩;have K8:=Hd (K7.out.next (K7.out.rd.below hb8) (Z0.of_below hb8));clear hb8 SM K7;refine Or.elim (Bool.eq_false_or_eq_true (isS 2 Yau (nmS (rtQ S)))) (fun hm=>?_) (fun hm=>?_)
  · rw [hm]
    have HR:=Hd (Ye2 hm);have N1:=Hd (Uu r 0 _ _ K8.out.rd);clear hm;go_wp2_with fail
    refine N1.out.mono ?_;rintro e w9 ⟨rfl,h9,m9⟩;have K9:=Hd (K8.out.next h9 m9);have T9:=Hd (J1 r 0 _ Xj _ K9.out.rd);clear h9 m9 N1 K8;go_wp2_with fail
    refine T9.out.mono ?_;rintro e wa2 ⟨rfl,ha,ma⟩;have KA:=Hd (K9.out.next ha ma);have NM:=Hd (Vh (Uj (s:=Xj) (I5 (I5 HGQ.out))));have NA:=Hd (Uu r 0 _ _ KA.out.rd);clear ha ma T9 K9;go_wp2_with fail
    refine NA.out.mono ?_;rintro e wb ⟨rfl,hb,mb⟩;have KB:=Hd (KA.out.next hb mb);obtain ⟨y0,y1,y2,yz⟩:=Zf KB.out.loc;have yf2:=yz 2;have KC:=Hd (KB.out.put2 (nmV (tkS Xj (nmS (nmS (rtQ S))))));have TD:=Hd (J1 r 0 _ cmB _ KC.out.rd);clear hb mb NA KA KB yz;go_wp2_with fail
    clear y0 y1 y2 yf2;refine TD.out.mono ?_;rintro e wd ⟨rfl,hd,md⟩;have KD:=Hd (KC.out.next hd md);clear hd md TD KC;go_wp2_with fail
    refine bodyPost_ret (results_none rfl _ _ _) rfl ?_;refine ⟨rfl,_,_,by rw [HR.out,Y4,show ∀ X:StP,Xb (Zb (fun ts=>Except.ok ((),ts)) X)=X from Yf];exact KD.out,NQ.out,NM.out,fun p us e=>?_⟩;rw [HR.out] at e;obtain ⟨_,rfl⟩:=Vv e;exact ⟨rfl,rfl⟩
  · rw [hm]
    have HR:=Hd (Ygz hm);have TD:=Hd (J1 r 0 _ cmB _ K8.out.rd);clear hm;go_wp2_with fail
    refine TD.out.mono ?_;rintro e wd ⟨rfl,hd,md⟩;have KD:=Hd (K8.out.next hd md);clear hd md TD K8;go_wp2_with fail
    refine bodyPost_ret (results_none rfl _ _ _) rfl ?_;refine ⟨rfl,_,_,by rw [HR.out,Y4,show ∀ X:StP,Xb (Zb (fun ts=>Except.ok ((),ts)) X)=X from Yf];exact KD.out,NQ.out,Nat.zero_le _,fun p us e=>?_⟩;rw [HR.out] at e;obtain ⟨_,rfl⟩:=Vv e;exact ⟨rfl,rfl⟩
end Go.Proofs.YtkmloefbkgcbkaaGreatDoor
