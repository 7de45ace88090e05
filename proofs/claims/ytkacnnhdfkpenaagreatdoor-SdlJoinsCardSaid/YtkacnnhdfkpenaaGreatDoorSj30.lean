/- The landed reader of schemas, as plain functions of tokens; definitions as plain trees. -/
import Derived.Test.YtkacnnhdfkpenaaGreatDoorSj27
import Derived.Test.YtkacnnhdfkpenaaGreatDoorSj29
set_option maxRecDepth 100000
set_option maxHeartbeats 8000000
namespace Go.Proofs.YtkacnnhdfkpenaaGreatDoor
open Go.RowKit
structure FieldT where
 name:ByteArray
 params:List VarT
 tn:ByteArray
 tl:Nat
 tm:Nat
 dirs:List DirT
structure DefnT where
 kind:Int
 name:ByteArray
 faces:List ByteArray
 fields:List FieldT
 parts:List ByteArray
 params:List VarT
structure SchT where
 defs:List DefnT
 query:ByteArray
 mutation:ByteArray
def encStr (s:ByteArray):TrS:=.cons (.one (.string s)) .nil
def encField (x:FieldT):TrS:=.cons (.one (.string x.name)) (.cons (.row (rowOf encVar x.params)) (.cons (.one (.string x.tn)) (.cons (.one (.int .i64 (x.tl:Int))) (.cons (.one (.int .i64 (x.tm:Int))) (.cons (.row (rowOf encD x.dirs)) .nil)))))
def encDefn (x:DefnT):TrS:=.cons (.one (.int .i64 x.kind)) (.cons (.one (.string x.name)) (.cons (.row (rowOf encStr x.faces)) (.cons (.row (rowOf encField x.fields)) (.cons (.row (rowOf encStr x.parts)) (.cons (.row (rowOf encVar x.params)) .nil)))))
def encSch (x:SchT):TrS:=.cons (.row (rowOf encDefn x.defs)) (.cons (.one (.string x.query)) (.cons (.one (.string x.mutation)) .nil))
def schemaB:ByteArray:=⟨#[115,99,104,101,109,97]⟩
def implB:ByteArray:=⟨#[105,109,112,108,101,109,101,110,116,115]⟩
def ampB:ByteArray:=⟨#[38]⟩
def barB:ByteArray:=⟨#[124]⟩
def typeB:ByteArray:=⟨#[116,121,112,101]⟩
def faceB:ByteArray:=⟨#[105,110,116,101,114,102,97,99,101]⟩
def unionB:ByteArray:=⟨#[117,110,105,111,110]⟩
def enumsB:ByteArray:=⟨#[101,110,117,109]⟩
def inputB:ByteArray:=⟨#[105,110,112,117,116]⟩
def remT (ts:List Tok):List Tok:=if kindB 5 ts=true then ts.tail else ts
def parR (d:Nat) (ts:List Tok):Except Int (VarT × List Tok):=paramR d (remT ts)
def fparsR (d:Nat) (ts:List Tok):Except Int (List VarT × List Tok):=
 if atB 1 opB ts=true then serR (parR d) addL cpB (ts.tail.length+1) [] ts.tail else .ok ([],ts)
def fdR (d:Nat) (ts:List Tok):Except Int (FieldT × List Tok):=
 match nameR (remT ts) with
 | none=>.error 2
 | some (n,r) =>
   match fparsR d r with
   | .error x=>.error x
   | .ok (ps,r2) =>
     if atB 1 colB r2=true then
      match typeR 4 r2.tail with
      | .error x=>.error x
      | .ok (t,r3) =>
        match dirsR true d r3 with
        | .error x=>.error x
        | .ok (ds,r4)=>.ok (⟨n,ps,t.1,t.2.1,t.2.2,ds⟩,r4)
     else .error 2
def badEn (s:ByteArray):Bool:=!enumB s.data.toList
def enR (ts:List Tok):Except Int (ByteArray × List Tok):=
 match nameR (remT ts) with
 | none=>.error 2
 | some (n,r)=>if badEn n=true then .error 2 else .ok (n,r)
def namesF (s:ByteArray):Nat→List ByteArray→List Tok→Except Int (List ByteArray × List Tok)
 | 0,_,_=>.error 2
 | f+1,acc,ts =>
   if atB 1 s ts=true then
    match nameR ts.tail with
    | none=>.error 2
    | some (n,r)=>namesF s f (acc++[n]) r
   else .ok (acc,ts)
def namesR (s:ByteArray) (ts:List Tok):Except Int (List ByteArray × List Tok):=
 match nameR (skipT 1 s ts) with
 | none=>.error 2
 | some (n,r)=>namesF s (r.length+1) [n] r
def kindW (w:ByteArray):Int:=
 if w.toList == typeB.toList then 1 else if w.toList == faceB.toList then 2 else if w.toList == unionB.toList then 3 else if w.toList == enumsB.toList then 4 else if w.toList == inputB.toList then 5 else 0
def facesR (ts:List Tok):Except Int (List ByteArray × List Tok):=if atB 2 implB ts=true then namesR ampB ts.tail else .ok ([],ts)
def bodyR (d:Nat) (k:Int) (n:ByteArray) (ts:List Tok):Except Int (DefnT × List Tok):=
 if k=1∨k=2 then
  match facesR ts with
  | .error x=>.error x
  | .ok (fs,r) =>
    if atB 1 omB r=true then
     match serR (fdR d) addL cmB (r.tail.length+1) [] r.tail with
     | .error x=>.error x
     | .ok (l,r2)=>.ok (⟨k,n,fs,l,[],[]⟩,r2)
    else .error 2
 else if k=3 then
  if atB 1 eqB ts=true then
    match namesR barB ts.tail with
    | .error x=>.error x
    | .ok (l,r)=>.ok (⟨k,n,[],[],l,[]⟩,r)
  else .error 2
 else if k=4 then
  if atB 1 omB ts=true then
    match serR enR addL cmB (ts.tail.length+1) [] ts.tail with
    | .error x=>.error x
    | .ok (l,r)=>.ok (⟨k,n,[],[],l,[]⟩,r)
  else .error 2
 else
  if atB 1 omB ts=true then
    match serR (parR d) addL cmB (ts.tail.length+1) [] ts.tail with
    | .error x=>.error x
    | .ok (l,r)=>.ok (⟨k,n,[],[],[],l⟩,r)
  else .error 2
def defnR (d:Nat) (ts:List Tok):Except Int (DefnT × List Tok):=
 match nameR ts with
 | none=>.error 2
 | some (w,r) =>
   if kindW w=0 then .error 2 else
    match nameR r with
    | none=>.error 2
    | some (n,r2)=>bodyR d (kindW w) n r2
def mutR (ts:List Tok):Except Int (ByteArray × List Tok):=
 if atB 2 mutB ts=true then
  if atB 1 colB ts.tail=true then
   match nameR ts.tail.tail with
   | none=>.error 2
   | some (m,r)=>.ok (m,r)
  else .error 2
 else .ok (eB,ts)
def rootsR (ts:List Tok):Except Int ((ByteArray × ByteArray) × List Tok):=
 if atB 1 omB ts=true then
  if atB 2 queryB ts.tail=true then
   if atB 1 colB ts.tail.tail=true then
    match nameR ts.tail.tail.tail with
    | none=>.error 2
    | some (q,r) =>
      match mutR r with
      | .error x=>.error x
      | .ok (m,r2)=>if atB 1 cmB r2=true then .ok ((q,m),r2.tail) else .error 2
   else .error 2
  else .error 2
 else .error 2
def mutName:ByteArray:=⟨#[77,117,116,97,116,105,111,110]⟩
def queryName:ByteArray:=⟨#[81,117,101,114,121]⟩
def untold (l:List DefnT):ByteArray:=if l.any (fun d=>d.name.toList == mutName.toList)=true then mutName else eB
def schF:Nat→Bool→SchT→List Tok→Except Int SchT
 | 0,_,_,_=>.error 2
 | f+1,told,D,ts =>
   if told=false∧atB 2 schemaB (remT ts)=true then
    match rootsR (remT ts).tail with
    | .error x=>.error x
    | .ok (p,r)=>if r.isEmpty=true then .ok ⟨D.defs,p.1,p.2⟩ else schF f true ⟨D.defs,p.1,p.2⟩ r
   else
    match defnR 0 (remT ts) with
    | .error x=>.error x
    | .ok (d,r)=>if r.isEmpty=true then (if told=true then .ok ⟨D.defs++[d],D.query,D.mutation⟩ else .ok ⟨D.defs++[d],queryName,untold (D.defs++[d])⟩) else schF f told ⟨D.defs++[d],D.query,D.mutation⟩ r
def schR (ts:List Tok):Except Int SchT:=schF (ts.length+1) false ⟨[],eB,eB⟩ ts
def schRr (ts:List Tok):Except Int (SchT × List Tok):=match schR ts with | .ok D=>.ok (D,[]) | .error x=>.error x
theorem rem_suf (ts:List Tok):remT ts <:+ ts:=by
 unfold remT
 split
 · exact List.tail_suffix ts
 · exact List.suffix_refl ts
theorem par_sfx {d:Nat} {ts r:List Tok} {x:VarT} (h:parR d ts=.ok (x,r)):Sfx r ts:=(param_sfx h).le (rem_suf ts)
theorem en_sfx {ts r:List Tok} {x:ByteArray} (h:enR ts=.ok (x,r)):Sfx r ts:=by
 unfold enR at h
 cases hn:nameR (remT ts) with
 | none=>rw [hn] at h;cases h
 | some q =>
   obtain ⟨n,r1⟩:=q
   rw [hn] at h
   simp only at h
   split at h
   · cases h
   · have e:=(Prod.mk.inj (Except.ok.inj h)).2
     subst e
     exact (name_sfx hn).le (rem_suf ts)
theorem fpars_suf {d:Nat} {ts r:List Tok} {l:List VarT} (h:fparsR d ts=.ok (l,r)):r <:+ ts:=by
 unfold fparsR at h
 split at h
 · rename_i hb
   exact ((ser_sfx (fun _ _ _ h=>par_sfx h) _ _ _ _ _ h).trans (at_sfx hb)).1
 · have e:=(Prod.mk.inj (Except.ok.inj h)).2
   subst e
   exact List.suffix_refl _
theorem fd_sfx {d:Nat} {ts r:List Tok} {x:FieldT} (h:fdR d ts=.ok (x,r)):Sfx r ts:=by
 unfold fdR at h
 cases hn:nameR (remT ts) with
 | none=>rw [hn] at h;cases h
 | some q =>
   obtain ⟨n,r1⟩:=q
   rw [hn] at h
   simp only at h
   cases hp:fparsR d r1 with
   | error x=>rw [hp] at h;cases h
   | ok q =>
     obtain ⟨ps,r2⟩:=q
     rw [hp] at h
     simp only at h
     split at h
     · rename_i hc
       cases ht:typeR 4 r2.tail with
       | error x=>rw [ht] at h;cases h
       | ok q =>
         obtain ⟨t,r3⟩:=q
         rw [ht] at h
         simp only at h
         cases hd:dirsR true d r3 with
         | error x=>rw [hd] at h;cases h
         | ok q =>
           obtain ⟨ds,r4⟩:=q
           rw [hd] at h
           have e:=(Prod.mk.inj (Except.ok.inj h)).2
           subst e
           exact Sfx.of (dirs_sfx hd) ((((typ_sfx _ _ _ _ ht).trans (at_sfx hc)).le (fpars_suf hp)).trans ((name_sfx hn).le (rem_suf ts)))
     · cases h
theorem skip_suf (k:Int) (s:ByteArray) (ts:List Tok):skipT k s ts <:+ ts:=by
 unfold skipT
 split
 · exact List.tail_suffix ts
 · exact List.suffix_refl ts
theorem namesF_suf {s:ByteArray} : ∀ (f:Nat) (acc:List ByteArray) (ts:List Tok) (l:List ByteArray) (r:List Tok),namesF s f acc ts=.ok (l,r)→r <:+ ts
 | 0,_,_,_,_,h=>by cases h
 | f + 1,acc,ts,l,r,h=>by
   rw [namesF] at h
   split at h
   · rename_i hb
     cases hn:nameR ts.tail with
     | none=>rw [hn] at h;cases h
     | some q =>
       obtain ⟨n,r1⟩:=q
       rw [hn] at h
       exact (namesF_suf f _ _ _ _ h).trans ((name_sfx hn).trans (at_sfx hb)).1
   · have e:=(Prod.mk.inj (Except.ok.inj h)).2
     subst e
     exact List.suffix_refl _
theorem names_sfx {s:ByteArray} {ts r:List Tok} {l:List ByteArray} (h:namesR s ts=.ok (l,r)):Sfx r ts:=by
 unfold namesR at h
 cases hn:nameR (skipT 1 s ts) with
 | none=>rw [hn] at h;cases h
 | some q =>
   obtain ⟨n,r1⟩:=q
   rw [hn] at h
   exact Sfx.of (namesF_suf _ _ _ _ _ h) ((name_sfx hn).le (skip_suf 1 s ts))
theorem info_SdP:(Tryz.prog.info? 203).map (fun i=>(i.zero,i.size,i.bytes))=some (some (.agg #[.string ⟨#[]⟩,.string ⟨#[]⟩,.int .i64 0,.int .i64 0,.bool false,.int .i64 0,.int .i64 0,.string ⟨#[]⟩,.slice none 0 0,.slice none 0 0]),10,136):=by kernel_rfl
theorem serSdP_any (en:ByteArray) (one:List Tok→Except Int ((VarT) × List Tok)) (hS:∀ ts a r,one ts=.ok (a,r)→Sfx r ts) (r d:Nat) (ts:List Tok) (w:World)
  (HC:∀ tq wx,GoodD tq→tq.length≤ts.length→Rd wx r tq d→KRd r wx→NoX r wx→Calls Tryz.prog 228 #[.pointer (some ⟨r,0,none⟩)] wx (Post r d wx (layS encVar) (one tq)))
  (hG:GoodD ts) (hR:Rd w r ts d) (hK:KRd r w) (hX:NoX r w):Calls Tryz.prog 227 #[.pointer (some ⟨r,0,none⟩),.string en,.func (.func 228) #[] #[]] w (Post r d w (layR (rowOf encVar)) (serR one addL en (ts.length+1) [] ts)):=by
 suffices H:∀ Q:Ending→World→Prop,(∀ e w',Post r d w (layR (rowOf encVar)) (serR one addL en (ts.length+1) [] ts) e w'→Q e w')→Calls Tryz.prog 227 #[.pointer (some ⟨r,0,none⟩),.string en,.func (.func 228) #[] #[]] w Q from H _ (fun _ _ h=>h)
 intro Q hQ
 obtain ⟨ti0,hi,hz0,hz1,hz2⟩:=info_parts info_SdP
 obtain ⟨RES,hRES⟩:∃ RES,serR one addL en (ts.length+1) [] ts=RES:=⟨_,rfl⟩
 rw [hRES] at hQ
 have HQ:=Hd hQ
 have HRES:=Hd hRES
 have HCC:=Hd HC
 have HSS:=Hd hS
 have hr:=hR.lt
 have hlen:ts.length≤200000:=by obtain ⟨_,_,_,_,h,_⟩:=hR;exact h
 have B0:=Hd (And.intro hR (And.intro hK (And.intro hG hX)))
 clear hQ hRES HC hS hG hR hK hX
 go_enter Tryz.func227,Tryz.ntmps227
 go_wp2_with fail
 go_loopg [7] (ts.length+1) (fun g out wx=>∃ (acc:List VarT) (tq:List Tok),tq.length+1≤g∧tq.length≤ts.length∧((rowOf encVar) acc).len+tq.length≤200000∧Aside (RTr 203 10 w.heap.size wx out ((rowOf encVar) acc)∧Moved r w wx∧Rd wx r tq d∧KRd r wx∧GoodD tq∧NoX r wx∧serR one addL en g acc tq=RES))
 case atStart=>exact ⟨[],ts,Nat.le_refl _,Nat.le_refl _,by rw [show ((rowOf encVar) []).len=0 from rfl];omega,vaside ⟨(RTr.start _ _ _ _),Moved.refl _ _,B0.out.1,B0.out.2.1,B0.out.2.2.1,B0.out.2.2.2,HRES.out⟩⟩
 case round =>
  obtain ⟨acc,tq,hq,hql,hal,HA⟩:=hrel
  obtain ⟨hrt,hmx,hrx,hkx,hgx,hxx,hex⟩:=HA.out
  obtain ⟨xs,P,hown,hvals,hP⟩:=hrt
  obtain ⟨Ao,co,rfl⟩:=shape_own hown
  have KX:=Hd (And.intro hmx (And.intro hrx (And.intro hkx hxx)))
  have GX:=Hd hgx
  have EX:=Hd hex
  have HRT:=Hd (And.intro hown (And.intro hvals hP))
  clear HA hmx hrx hkx hgx hxx hex hown hvals hP
  cases gk with
  | zero=>omega
  | succ g =>
    go_wp2_with fail
    refine (HCC.out tq _ GX.out hql KX.out.2.1 KX.out.2.2.1 KX.out.2.2.2).mono ?_
    intro e w2 h
    cases hv:one tq with
    | error x =>
      rw [hv] at h
      obtain ⟨rfl,m⟩:=of_err h
      exact ⟨rfl,HQ.out _ _ (per (by rw [← EX.out,serR,hv]) (KX.out.1.trans m))⟩
    | ok p =>
      obtain ⟨a,tq2⟩:=p
      rw [hv] at h
      obtain ⟨⟨v,rfl,hl⟩,r2,m2⟩:=of_ok h
      obtain ⟨s0,s1,i2,i3,b4,i5,i6,s7,A8,n8,k8,A9,n9,k9,rfl,hts⟩:=var_open hl
      have hsf:=HSS.out _ _ _ hv
      have hsl:=hsf.2
      have G2:=Hd (GX.out.sub hsf.1)
      have M2:=Hd m2
      have R2:=Hd r2
      have T2:=Hd hts
      have hs2:=m2.size
      have hs0:=KX.out.1.size
      have O2:=Hd (own_moved HRT.out.1 m2 hr)
      have HV:=Hd hv
      clear h hv hl hts r2 m2 hsf
      go_wp2_with (at_builtin;refine wpList_append_lies _ rfl _ _ 66 rfl w.heap.size 203 ti0 (.agg #[.string ⟨#[]⟩,.string ⟨#[]⟩,.int .i64 0,.int .i64 0,.bool false,.int .i64 0,.int .i64 0,.string ⟨#[]⟩,.slice none 0 0,.slice none 0 0]) 10 136 Tryz.underlying66 hi hz0 hz1 hz2 rfl (by decide) _ ((rowOf encVar) acc).len xs rfl (own_low O2.out (blw _ _)) _ 1 1 [.string s0,.string s1,.int .i64 i2,.int .i64 i3,.bool b4,.int .i64 i5,.int .i64 i6,.string s7,.slice A8 n8 k8,.slice A9 n9 k9] rfl rfl (fun j u hj=>World.news_of_block (heap_alloc_new _ _) j u hj) (by intro y hy;simp at hy;rcases hy with rfl|rfl|rfl|rfl|rfl|rfl|rfl|rfl|rfl|rfl<;>rfl) (by decide) (by unfold maxLen;omega) (by omega) (by simp;omega) _ rfl ?_;intro gg cap2 w4 hown4 hgrow hat hlt4;have HG4:=Hd hgrow;have HO4:=Hd hown4;have HT4:=Hd hat;clear hgrow hown4 hat)
      have hgk:=grown_keep HG4.out (r:=r) (fun b hb=>by have:=(HRT.out.1.lt b hb).1;omega)
      have R4:=Hd (hgk.1 _ _ (R2.out.below (blw _ _)))
      have D4:=Hd (hgk.2 ((KX.out.2.2.1.moved M2.out).moved (Moved.of_below (blw _ _))))
      have M4:=Hd (show Moved r w w4 from by
        have m:=(KX.out.1.trans M2.out).trans (Moved.of_below (blw _ (.cells #[.string s0,.string s1,.int .i64 i2,.int .i64 i3,.bool b4,.int .i64 i5,.int .i64 i6,.string s7,.slice A8 n8 k8,.slice A9 n9 k9] 203)))
        exact ⟨HG4.out.os.trans m.os,HG4.out.tape.trans m.tape,HG4.out.output.trans m.output,Nat.le_trans m.size HG4.out.size,fun k hk hn=>(HG4.out.block k (Nat.lt_of_lt_of_le hk m.size) (fun e=>by have:=(HRT.out.1.lt k e.symm).1;omega)).trans (m.block k hk hn)⟩)
      have X4:=Hd (show NoX r w4 from trivial)
      have T4:=Hd (RTr.app hr (by omega) HRT.out.1 HRT.out.2.1 HRT.out.2.2 M2.out (TS.keep (fun _ hk=>⟨⟨hk.1,hk.2⟩,rfl⟩) _ _ T2.out) HO4.out HG4.out HT4.out)
      clear hgk
      go_wp2_with fail
      refine (skip_any r tq2 d 1 en _ R4.out).mono ?_
      intro e w5 h5
      have hE:=EX.out
      rw [serR,HV.out] at hE
      simp only at hE
      cases hb:atB 1 en tq2 with
      | true =>
        rw [hb] at h5 hE
        obtain ⟨rfl,r5,m5⟩:=h5
        rw [skip_yes hb] at r5
        simp only [if_true] at hE
        have T5:=Hd ((T4.out.moved m5 hr).fin (by rw [TrL.snoc_len];omega))
        have R5:=Hd r5
        have M5:=Hd (M4.out.trans m5)
        have E5:=Hd hE
        clear r5 m5 hE hb
        go_wp2_with fail
        exact HQ.out _ _ (post_ok E5.out.symm (show TP _ _ (.row ((rowOf encVar) (addL acc a))) _ by rw [show (rowOf encVar) (addL acc a)=((rowOf encVar) acc).snoc (encVar a) from rowOf_snoc _ _ _];exact T5.out) R5.out M5.out)
      | false =>
        rw [hb] at h5 hE
        obtain ⟨rfl,r5,m5⟩:=h5
        rw [skip_no hb] at r5
        simp only [Bool.false_eq_true,if_false] at hE
        have T5:=Hd (T4.out.moved m5 hr)
        have R5:=Hd r5
        have M5:=Hd (M4.out.trans m5)
        have X5:=Hd (X4.out.moved m5)
        have D5:=Hd (D4.out.moved m5)
        have E5:=Hd hE
        clear r5 m5 hE hb
        go_wp2_with fail
        go_roundg g
        case measure=>omega
        case rel=>exact ⟨addL acc a,tq2,by omega,by omega,by rw [show (rowOf encVar) (addL acc a)=((rowOf encVar) acc).snoc (encVar a) from rowOf_snoc _ _ _,TrL.snoc_len];omega,vaside ⟨by rw [show (rowOf encVar) (addL acc a)=((rowOf encVar) acc).snoc (encVar a) from rowOf_snoc _ _ _];exact T5.out,M5.out,R5.out,D5.out,G2.out,X5.out,E5.out⟩⟩
theorem fld_open {w:World} {P:Nat→Prop} {a:FieldT} {v:Value} (h:layS encField w P a v):∃ (s0:ByteArray) (A1:Option Addr) (n1 c1:Nat) (s2:ByteArray) (i3 i4:Int) (A5:Option Addr) (n5 c5:Nat),v=.agg #[.string s0,.slice A1 n1 c1,.string s2,.int .i64 i3,.int .i64 i4,.slice A5 n5 c5]∧TS w P (encField a) [.string s0,.slice A1 n1 c1,.string s2,.int .i64 i3,.int .i64 i4,.slice A5 n5 c5]:=by
 obtain ⟨cs,rfl,h⟩:=h
 have h0:=h
 unfold encField at h0
 simp only [TS,TP] at h0
 obtain ⟨c0,_,rfl,⟨rfl,_⟩,c1,_,rfl,⟨A1,k1,rfl,_,_⟩,c2,_,rfl,⟨rfl,_⟩,c3,_,rfl,⟨rfl,_⟩,c4,_,rfl,⟨rfl,_⟩,c5,_,rfl,⟨A5,k5,rfl,_,_⟩,rfl⟩:=h0
 exact ⟨_,_,_,_,_,_,_,_,_,_,rfl,h⟩
theorem info_SdF:(Tryz.prog.info? 140).map (fun i=>(i.zero,i.size,i.bytes))=some (some (.agg #[.string ⟨#[]⟩,.slice none 0 0,.string ⟨#[]⟩,.int .i64 0,.int .i64 0,.slice none 0 0]),6,96):=by kernel_rfl
theorem serSdF_any (en:ByteArray) (one:List Tok→Except Int ((FieldT) × List Tok)) (hS:∀ ts a r,one ts=.ok (a,r)→Sfx r ts) (r d:Nat) (ts:List Tok) (w:World)
  (HC:∀ tq wx,GoodD tq→tq.length≤ts.length→Rd wx r tq d→KRd r wx→NoX r wx→Calls Tryz.prog 224 #[.pointer (some ⟨r,0,none⟩)] wx (Post r d wx (layS encField) (one tq)))
  (hG:GoodD ts) (hR:Rd w r ts d) (hK:KRd r w) (hX:NoX r w):Calls Tryz.prog 223 #[.pointer (some ⟨r,0,none⟩),.string en,.func (.func 224) #[] #[]] w (Post r d w (layR (rowOf encField)) (serR one addL en (ts.length+1) [] ts)):=by
 suffices H:∀ Q:Ending→World→Prop,(∀ e w',Post r d w (layR (rowOf encField)) (serR one addL en (ts.length+1) [] ts) e w'→Q e w')→Calls Tryz.prog 223 #[.pointer (some ⟨r,0,none⟩),.string en,.func (.func 224) #[] #[]] w Q from H _ (fun _ _ h=>h)
 intro Q hQ
 obtain ⟨ti0,hi,hz0,hz1,hz2⟩:=info_parts info_SdF
 obtain ⟨RES,hRES⟩:∃ RES,serR one addL en (ts.length+1) [] ts=RES:=⟨_,rfl⟩
 rw [hRES] at hQ
 have HQ:=Hd hQ
 have HRES:=Hd hRES
 have HCC:=Hd HC
 have HSS:=Hd hS
 have hr:=hR.lt
 have hlen:ts.length≤200000:=by obtain ⟨_,_,_,_,h,_⟩:=hR;exact h
 have B0:=Hd (And.intro hR (And.intro hK (And.intro hG hX)))
 clear hQ hRES HC hS hG hR hK hX
 go_enter Tryz.func223,Tryz.ntmps223
 go_wp2_with fail
 go_loopg [7] (ts.length+1) (fun g out wx=>∃ (acc:List FieldT) (tq:List Tok),tq.length+1≤g∧tq.length≤ts.length∧((rowOf encField) acc).len+tq.length≤200000∧Aside (RTr 140 6 w.heap.size wx out ((rowOf encField) acc)∧Moved r w wx∧Rd wx r tq d∧KRd r wx∧GoodD tq∧NoX r wx∧serR one addL en g acc tq=RES))
 case atStart=>exact ⟨[],ts,Nat.le_refl _,Nat.le_refl _,by rw [show ((rowOf encField) []).len=0 from rfl];omega,vaside ⟨(RTr.start _ _ _ _),Moved.refl _ _,B0.out.1,B0.out.2.1,B0.out.2.2.1,B0.out.2.2.2,HRES.out⟩⟩
 case round =>
  obtain ⟨acc,tq,hq,hql,hal,HA⟩:=hrel
  obtain ⟨hrt,hmx,hrx,hkx,hgx,hxx,hex⟩:=HA.out
  obtain ⟨xs,P,hown,hvals,hP⟩:=hrt
  obtain ⟨Ao,co,rfl⟩:=shape_own hown
  have KX:=Hd (And.intro hmx (And.intro hrx (And.intro hkx hxx)))
  have GX:=Hd hgx
  have EX:=Hd hex
  have HRT:=Hd (And.intro hown (And.intro hvals hP))
  clear HA hmx hrx hkx hgx hxx hex hown hvals hP
  cases gk with
  | zero=>omega
  | succ g =>
    go_wp2_with fail
    refine (HCC.out tq _ GX.out hql KX.out.2.1 KX.out.2.2.1 KX.out.2.2.2).mono ?_
    intro e w2 h
    cases hv:one tq with
    | error x =>
      rw [hv] at h
      obtain ⟨rfl,m⟩:=of_err h
      exact ⟨rfl,HQ.out _ _ (per (by rw [← EX.out,serR,hv]) (KX.out.1.trans m))⟩
    | ok p =>
      obtain ⟨a,tq2⟩:=p
      rw [hv] at h
      obtain ⟨⟨v,rfl,hl⟩,r2,m2⟩:=of_ok h
      obtain ⟨s0,A1,n1,k1,s2,i3,i4,A5,n5,k5,rfl,hts⟩:=fld_open hl
      have hsf:=HSS.out _ _ _ hv
      have hsl:=hsf.2
      have G2:=Hd (GX.out.sub hsf.1)
      have M2:=Hd m2
      have R2:=Hd r2
      have T2:=Hd hts
      have hs2:=m2.size
      have hs0:=KX.out.1.size
      have O2:=Hd (own_moved HRT.out.1 m2 hr)
      have HV:=Hd hv
      clear h hv hl hts r2 m2 hsf
      go_wp2_with (at_builtin;refine wpList_append_lies _ rfl _ _ 65 rfl w.heap.size 140 ti0 (.agg #[.string ⟨#[]⟩,.slice none 0 0,.string ⟨#[]⟩,.int .i64 0,.int .i64 0,.slice none 0 0]) 6 96 Tryz.underlying65 hi hz0 hz1 hz2 rfl (by decide) _ ((rowOf encField) acc).len xs rfl (own_low O2.out (blw _ _)) _ 1 1 [.string s0,.slice A1 n1 k1,.string s2,.int .i64 i3,.int .i64 i4,.slice A5 n5 k5] rfl rfl (fun j u hj=>World.news_of_block (heap_alloc_new _ _) j u hj) (by intro y hy;simp at hy;rcases hy with rfl|rfl|rfl|rfl|rfl|rfl<;>rfl) (by decide) (by unfold maxLen;omega) (by omega) (by simp;omega) _ rfl ?_;intro gg cap2 w4 hown4 hgrow hat hlt4;have HG4:=Hd hgrow;have HO4:=Hd hown4;have HT4:=Hd hat;clear hgrow hown4 hat)
      have hgk:=grown_keep HG4.out (r:=r) (fun b hb=>by have:=(HRT.out.1.lt b hb).1;omega)
      have R4:=Hd (hgk.1 _ _ (R2.out.below (blw _ _)))
      have D4:=Hd (hgk.2 ((KX.out.2.2.1.moved M2.out).moved (Moved.of_below (blw _ _))))
      have M4:=Hd (show Moved r w w4 from by
        have m:=(KX.out.1.trans M2.out).trans (Moved.of_below (blw _ (.cells #[.string s0,.slice A1 n1 k1,.string s2,.int .i64 i3,.int .i64 i4,.slice A5 n5 k5] 140)))
        exact ⟨HG4.out.os.trans m.os,HG4.out.tape.trans m.tape,HG4.out.output.trans m.output,Nat.le_trans m.size HG4.out.size,fun k hk hn=>(HG4.out.block k (Nat.lt_of_lt_of_le hk m.size) (fun e=>by have:=(HRT.out.1.lt k e.symm).1;omega)).trans (m.block k hk hn)⟩)
      have X4:=Hd (show NoX r w4 from trivial)
      have T4:=Hd (RTr.app hr (by omega) HRT.out.1 HRT.out.2.1 HRT.out.2.2 M2.out (TS.keep (fun _ hk=>⟨⟨hk.1,hk.2⟩,rfl⟩) _ _ T2.out) HO4.out HG4.out HT4.out)
      clear hgk
      go_wp2_with fail
      refine (skip_any r tq2 d 1 en _ R4.out).mono ?_
      intro e w5 h5
      have hE:=EX.out
      rw [serR,HV.out] at hE
      simp only at hE
      cases hb:atB 1 en tq2 with
      | true =>
        rw [hb] at h5 hE
        obtain ⟨rfl,r5,m5⟩:=h5
        rw [skip_yes hb] at r5
        simp only [if_true] at hE
        have T5:=Hd ((T4.out.moved m5 hr).fin (by rw [TrL.snoc_len];omega))
        have R5:=Hd r5
        have M5:=Hd (M4.out.trans m5)
        have E5:=Hd hE
        clear r5 m5 hE hb
        go_wp2_with fail
        exact HQ.out _ _ (post_ok E5.out.symm (show TP _ _ (.row ((rowOf encField) (addL acc a))) _ by rw [show (rowOf encField) (addL acc a)=((rowOf encField) acc).snoc (encField a) from rowOf_snoc _ _ _];exact T5.out) R5.out M5.out)
      | false =>
        rw [hb] at h5 hE
        obtain ⟨rfl,r5,m5⟩:=h5
        rw [skip_no hb] at r5
        simp only [Bool.false_eq_true,if_false] at hE
        have T5:=Hd (T4.out.moved m5 hr)
        have R5:=Hd r5
        have M5:=Hd (M4.out.trans m5)
        have X5:=Hd (X4.out.moved m5)
        have D5:=Hd (D4.out.moved m5)
        have E5:=Hd hE
        clear r5 m5 hE hb
        go_wp2_with fail
        go_roundg g
        case measure=>omega
        case rel=>exact ⟨addL acc a,tq2,by omega,by omega,by rw [show (rowOf encField) (addL acc a)=((rowOf encField) acc).snoc (encField a) from rowOf_snoc _ _ _,TrL.snoc_len];omega,vaside ⟨by rw [show (rowOf encField) (addL acc a)=((rowOf encField) acc).snoc (encField a) from rowOf_snoc _ _ _];exact T5.out,M5.out,R5.out,D5.out,G2.out,X5.out,E5.out⟩⟩
end Go.Proofs.YtkacnnhdfkpenaaGreatDoor
