/- Schemas, one behind the other: what is read hangs on what is read, and on the token behind it. -/
import Derived.Test.YtkacnnhdfkpenaaGreatDoorSj45
import Derived.Test.YtkacnnhdfkpenaaGreatDoorSj43
set_option maxRecDepth 100000
set_option maxHeartbeats 4000000
namespace Go.Proofs.YtkacnnhdfkpenaaGreatDoor
open Go.RowKit
theorem kind_head {k:Int} {r r':List Tok} (h:r'.head? = r.head?):kindB k r'=kindB k r:=by
 cases r with
 | nil=>cases r' with
   | nil=>rfl
   | cons t r'=>simp at h
 | cons u r=>cases r' with
   | nil=>simp at h
   | cons t r'=>simp at h;subst h;rfl
theorem head_kind (k:Int):Head (kindB k):=⟨rfl,fun _ _ h=>kind_head h⟩
def ifH {α:Type} (b:List Tok→Bool) (p q:Rdr α):Rdr α:=fun ts=>if b ts=true then p ts.tail else q ts
theorem head_ne {b:List Tok→Bool} (hb:Head b) {ts:List Tok} (h:b ts=true):∃ t r,ts=t :: r:=by
 cases ts with
 | nil=>rw [hb.1] at h;cases h
 | cons t r=>exact ⟨t,r,rfl⟩
theorem par_ifh {α:Type} {n:Nat} {b:List Tok→Bool} {p q:Rdr α} (hb:Head b) (sp:Suf p) (hp:∀ m,m < n→ParN m p) (hq:ParN n q) (zq:Nil q):ParN n (ifH b p q):=by
 have zz:Ends (ifH b p q []):=by unfold ifH;rw [if_neg (by rw [hb.1];simp)];exact zq
 have key:∀ pre rest a,b (pre++rest)=true→p (pre++rest).tail=.ok (a,rest)→∃ t p1,pre=t :: p1:=by
   intro pre rest a ha h
   cases pre with
   | cons t p1=>exact ⟨t,p1,rfl⟩
   | nil =>
     have h1:=(sp _ _ _ h).length_le
     obtain ⟨t,r,e⟩:=head_ne hb ha
     rw [List.nil_append] at e
     subst e
     simp only [List.nil_append,List.tail_cons,List.length_cons] at h1
     omega
 refine ⟨fun pre rest a hl h rest' hr=>?_,fun pre rest a hl h c hc=>?_⟩
 · unfold ifH at h ⊢
   rw [hb.2 _ _ (head_app hr)]
   split at h
   · rename_i ha
     obtain ⟨t,p1,rfl⟩:=key pre rest a ha h
     rw [if_pos ha]
     exact (hp p1.length (by simp at hl ⊢;omega)).loc p1 rest a (Nat.le_refl _) h rest' hr
   · rename_i ha
     rw [if_neg ha]
     exact hq.loc pre rest a hl h rest' hr
 · cases c with
   | nil=>exact zz
   | cons u c =>
     obtain ⟨z,hz⟩:=hc
     have hh:(u :: c).head? = (pre++rest).head?:=by rw [← hz];rfl
     unfold ifH at h ⊢
     rw [hb.2 _ _ hh]
     split at h
     · rename_i ha
       rw [if_pos ha]
       rw [← hz] at h hl
       exact (hp (c++z).length (by simp at hl ⊢;omega)).cut (c++z) rest a (Nat.le_refl _) h c (List.prefix_append _ _)
     · rename_i ha
       rw [if_neg ha]
       exact hq.cut pre rest a hl h _ ⟨z,hz⟩
def remR {α:Type} (p:Rdr α):Rdr α:=fun ts=>p (remT ts)
theorem remR_eq {α:Type} (p:Rdr α):remR p=ifH (kindB 5) p p:=by
 funext ts
 unfold remR ifH remT
 split<;>rfl
theorem par_rem {α:Type} {n:Nat} {p:Rdr α} (sp:Suf p) (hp:∀ m,ParN m p) (zp:Nil p):ParN n (remR p):=by
 rw [remR_eq];exact par_ifh (head_kind 5) sp (fun m _=>hp m) (hp n) zp
theorem paramR_eq (d:Nat):paramR d=nmR (fun n=>ifR 1 colB (bindR (typeR 4) fun t=>varA d n t) (errR 2)) (errR 2):=by
 funext ts
 unfold paramR nmR ifR bindR varA ifR bindR
 cases nameR ts with
 | none=>rfl
 | some q =>
   obtain ⟨n,r⟩:=q
   simp only
   split
   · cases typeR 4 r.tail with
     | error x=>rfl
     | ok q =>
       obtain ⟨t,r2⟩:=q
       simp only
       split
       · cases valD true d r2.tail<;>rfl
       · rfl
   · rfl
theorem str_param (d:Nat):Str (paramR d):=fun _ _ _ h=>param_sfx h
theorem nil_param (d:Nat):Nil (paramR d):=by rw [paramR_eq];exact nil_nm nil_er
theorem par_param (m d:Nat):ParN m (paramR d):=by
 rw [paramR_eq]
 have s1:∀ n,Suf (bindR (typeR 4) fun t=>varA d n t):=fun _=>suf_bind (str_typ _).suf fun _=>suf_varA _ _ _
 exact par_nm (fun _=>suf_if (s1 _) (suf_err _)) (fun _ k _=>par_if (s1 _) (fun i _=>par_bind (str_typ _).suf (fun _=>suf_varA _ _ _) (par_typ _ _) (fun _=>par_varA _ _ _ _) (fun _=>nil_if (nil_rt _))) (par_er _ _) nil_er) (par_er _ _) nil_er
theorem parR_eq (d:Nat):parR d=remR (paramR d):=rfl
theorem str_par (d:Nat):Str (parR d):=fun _ _ _ h=>par_sfx h
theorem nil_par (d:Nat):Nil (parR d):=nil_param d
theorem par_par (n d:Nat):ParN n (parR d):=by rw [parR_eq];exact par_rem (str_param d).suf (fun m=>par_param m d) (nil_param d)
theorem tail_ser {α ρ:Type} {one:Rdr α} {add:ρ→α→ρ} {e:ByteArray} (H:Str one) (hz:Nil one) (hp:∀ n,ParN n one) (acc:ρ):Tailed (serD one add e acc):=
 ⟨str_serD H acc,fun n=>par_serD H hz n (hp n) acc,nil_serD H hz acc,fun n=>free_serD H hp n acc⟩
theorem fpars_eq (d:Nat):fparsR d=ifR 1 opB (serD (parR d) addL cpB []) (retR []):=by funext ts;rfl
theorem suf_fpars (d:Nat):Suf (fparsR d):=fun _ _ _ h=>fpars_suf h
theorem par_fpars (n d:Nat):ParN n (fparsR d):=by
 rw [fpars_eq];exact par_if (str_serD (str_par d) _).suf (fun m _=>par_serD (str_par d) (nil_par d) m (par_par m d) _) (par_rt _ _) (nil_rt _)
def fdQ (d:Nat) (n:ByteArray):Rdr FieldT:=bindR (fparsR d) fun ps=>ifR 1 colB (bindR (typeR 4) fun t=>bindR (dirsR true d) fun ds=>retR ⟨n,ps,t.1,t.2.1,t.2.2,ds⟩) (errR 2)
theorem fdR_eq (d:Nat):fdR d=remR (nmR (fdQ d) (errR 2)):=by
 funext ts
 unfold fdR remR nmR fdQ bindR ifR
 cases nameR (remT ts) with
 | none=>rfl
 | some q =>
   obtain ⟨n,r⟩:=q
   simp only
   cases fparsR d r with
   | error x=>rfl
   | ok q =>
     obtain ⟨ps,r2⟩:=q
     simp only
     split
     · cases typeR 4 r2.tail with
       | error x=>rfl
       | ok q =>
         obtain ⟨t,r3⟩:=q
         simp only
         cases dirsR true d r3<;>rfl
     · rfl
theorem suf_fdT (d:Nat) (n:ByteArray) (ps:List VarT):Suf (bindR (typeR 4) fun t=>bindR (dirsR true d) fun ds=>retR (⟨n,ps,t.1,t.2.1,t.2.2,ds⟩:FieldT)):=suf_bind (str_typ _).suf fun _=>suf_bind (suf_dirs _ _) fun _=>suf_rt _
theorem par_fdT (m d:Nat) (n:ByteArray) (ps:List VarT):ParN m (bindR (typeR 4) fun t=>bindR (dirsR true d) fun ds=>retR (⟨n,ps,t.1,t.2.1,t.2.2,ds⟩:FieldT)):=
 par_bind (str_typ _).suf (fun _=>suf_bind (suf_dirs _ _) fun _=>suf_rt _) (par_typ _ _) (fun _=>par_bind (suf_dirs _ _) (fun _=>suf_rt _) (par_dirs _ _ _) (fun _=>par_rt _ _) (fun _=>nil_rt _)) (fun _=>nil_bind (nil_dirs _ _) fun _=>nil_rt _)
theorem suf_fdQ (d:Nat) (n:ByteArray):Suf (fdQ d n):=suf_bind (suf_fpars d) fun _=>suf_if (suf_fdT _ _ _) (suf_err _)
theorem par_fdQ (m d:Nat) (n:ByteArray):ParN m (fdQ d n):=
 par_bind (suf_fpars d) (fun _=>suf_if (suf_fdT _ _ _) (suf_err _)) (par_fpars _ _) (fun _=>par_if (suf_fdT _ _ _) (fun _ _=>par_fdT _ _ _ _) (par_er _ _) nil_er) (fun _=>nil_if nil_er)
theorem str_fd (d:Nat):Str (fdR d):=fun _ _ _ h=>fd_sfx h
theorem nil_fd (d:Nat):Nil (fdR d):=.inl rfl
theorem par_fd (n d:Nat):ParN n (fdR d):=by
 rw [fdR_eq]
 exact par_rem (suf_nm (suf_fdQ d) (suf_err _)) (fun m=>par_nm (suf_fdQ d) (fun x k _=>par_fdQ k d x) (par_er _ _) nil_er) (nil_nm nil_er)
theorem enR_eq:enR=remR (nmR (fun n=>if badEn n=true then errR 2 else retR n) (errR 2)):=by
 funext ts
 unfold enR remR nmR
 cases nameR (remT ts) with
 | none=>rfl
 | some q =>
   obtain ⟨n,r⟩:=q
   simp only
   split<;>rfl
theorem str_en:Str enR:=fun _ _ _ h=>en_sfx h
theorem nil_en:Nil enR:=.inl rfl
theorem par_en (n:Nat):ParN n enR:=by
 rw [enR_eq]
 have s:∀ n,Suf (if badEn n=true then errR 2 else retR n):=fun _=>suf_cond (suf_err _) (suf_rt _)
 exact par_rem (suf_nm s (suf_err _)) (fun m=>par_nm s (fun x k _=>par_cond (par_er _ _) (par_rt _ _)) (par_er _ _) nil_er) (nil_nm nil_er)
theorem namesF_fuel {s:ByteArray} : ∀ (f f':Nat) (acc:List ByteArray) (ts:List Tok),ts.length < f→ts.length < f'→namesF s f acc ts=namesF s f' acc ts
 | 0,_,_,_,h,_=>absurd h (Nat.not_lt_zero _)
 | _+1,0,_,_,_,h=>absurd h (Nat.not_lt_zero _)
 | f + 1,f'+1,acc,ts,h,h'=>by
   rw [namesF,namesF]
   split
   · rename_i ha
     cases hn:nameR ts.tail with
     | none=>rfl
     | some q =>
       obtain ⟨n,r⟩:=q
       have h1:=(name_sfx hn).2
       have h2:=(at_sfx ha).2
       exact namesF_fuel f f' _ r (by omega) (by omega)
   · rfl
def namesD (s:ByteArray) (acc:List ByteArray):Rdr (List ByteArray):=fun ts=>namesF s (ts.length+1) acc ts
theorem namesD_eq (s:ByteArray) (acc:List ByteArray):namesD s acc=ifR 1 s (nmR (fun n=>namesD s (acc++[n])) (errR 2)) (retR acc):=by
 funext ts
 unfold ifR nmR namesD
 rw [namesF]
 split
 · rename_i ha
   cases hn:nameR ts.tail with
   | none=>rfl
   | some q =>
     obtain ⟨n,r⟩:=q
     have h1:=(name_sfx hn).2
     have h2:=(at_sfx ha).2
     exact namesF_fuel _ _ _ r (by omega) (by omega)
 · rfl
theorem suf_namesD (s:ByteArray) (acc:List ByteArray):Suf (namesD s acc):=fun _ _ _ h=>namesF_suf _ _ _ _ _ h
theorem par_namesD (s:ByteArray):∀ n acc,ParN n (namesD s acc):=by
 intro n
 induction n using Nat.strongRecOn with
 | ind n ih =>
   intro acc
   rw [namesD_eq]
   exact par_if (suf_nm (fun _=>suf_namesD _ _) (suf_err _)) (fun m hm=>par_nm (fun _=>suf_namesD _ _) (fun _ k hk=>ih k (Nat.lt_trans hk hm) _) (par_er _ _) nil_er) (par_rt _ _) (nil_rt _)
def namesQ (s:ByteArray):Rdr (List ByteArray):=nmR (fun n=>namesD s [n]) (errR 2)
theorem namesR_eq (s:ByteArray):namesR s=ifR 1 s (namesQ s) (namesQ s):=by
 funext ts
 unfold namesR ifR namesQ nmR skipT namesD
 by_cases h:atB 1 s ts=true
 · rw [if_pos h,if_pos h]
   cases nameR ts.tail<;>rfl
 · rw [if_neg h,if_neg h]
   cases nameR ts<;>rfl
theorem suf_namesQ (s:ByteArray):Suf (namesQ s):=suf_nm (fun _=>suf_namesD _ _) (suf_err _)
theorem par_namesQ (s:ByteArray) (n:Nat):ParN n (namesQ s):=par_nm (fun _=>suf_namesD _ _) (fun _ k _=>par_namesD s k _) (par_er _ _) nil_er
theorem par_names (s:ByteArray) (n:Nat):ParN n (namesR s):=by
 rw [namesR_eq];exact par_if (suf_namesQ s) (fun m _=>par_namesQ s m) (par_namesQ s n) (nil_nm nil_er)
theorem faces_eq:facesR=ifR 2 implB (namesR ampB) (retR []):=by funext ts;rfl
theorem suf_names (s:ByteArray):Suf (namesR s):=fun _ _ _ h=>(names_sfx h).1
theorem suf_faces:Suf facesR:=by rw [faces_eq];exact suf_if (suf_names _) (suf_rt _)
theorem nil_faces:Nil facesR:=by rw [faces_eq];exact nil_if (nil_rt _)
theorem par_faces (n:Nat):ParN n facesR:=by rw [faces_eq];exact par_if (suf_names _) (fun m _=>par_names _ m) (par_rt _ _) (nil_rt _)
def AppP {α:Type} (p:Rdr α):Prop:=∀ ts a r,p ts=.ok (a,r)→∀ us,atB 1 barB us=false→p (ts++us)=.ok (a,r++us)
def NoZ {α:Type} (p:Rdr α):Prop:=∀ a r,p [] ≠ .ok (a,r)
theorem app_tail {α:Type} {p:Rdr α} (h:Tailed p):AppP p:=fun ts a r e us _=>by
 obtain ⟨pre,rfl⟩:=sfx_app (h.str _ _ _ e).1
 rw [List.append_assoc]
 exact h.free pre.length pre r a (Nat.le_refl _) e (r++us)
theorem noz_err {α:Type} : NoZ (errR 2:Rdr α):=fun _ _ h=>by cases h
theorem app_err {α:Type} : AppP (errR 2:Rdr α):=fun _ _ _ h=>by cases h
theorem noz_if {α:Type} {k:Int} {s:ByteArray} {p q:Rdr α} (hq:NoZ q):NoZ (ifR k s p q):=fun a r h=>by
 unfold ifR at h
 rw [if_neg (by simp [atB])] at h
 exact hq _ _ h
theorem app_if {α:Type} {k:Int} {s:ByteArray} {p q:Rdr α} (hp:AppP p) (hq:AppP q) (zq:NoZ q):AppP (ifR k s p q):=fun ts a r h us hu=>by
 cases ts with
 | nil=>exact absurd h (noz_if zq a r)
 | cons t ts =>
   unfold ifR at h ⊢
   rw [at_head (r:=t :: ts) (r':=t :: ts++us) rfl]
   split at h
   · rename_i ha;rw [if_pos ha];exact hp _ _ _ h us hu
   · rename_i ha;rw [if_neg ha];exact hq _ _ _ h us hu
theorem app_nm {α:Type} {p:ByteArray→Rdr α} (hp:∀ n,AppP (p n)):AppP (nmR p (errR 2)):=fun ts a r h us hu=>by
 cases ts with
 | nil=>cases h
 | cons t ts =>
   unfold nmR at h ⊢
   simp only [List.cons_append,name_cons] at h ⊢
   by_cases ht:t.1=2
   · rw [if_pos ht] at h ⊢;exact hp _ _ _ _ h us hu
   · rw [if_neg ht] at h;cases h
theorem noz_nm {α:Type} {p:ByteArray→Rdr α} : NoZ (nmR p (errR 2)):=fun _ _ h=>by cases h
theorem app_rem {α:Type} {p:Rdr α} (hp:AppP p) (zp:NoZ p):AppP (remR p):=fun ts a r h us hu=>by
 cases ts with
 | nil=>exact absurd h (zp a r)
 | cons t ts =>
   unfold remR remT at h ⊢
   rw [kind_head (r:=t :: ts) (r':=t :: ts++us) rfl]
   split at h
   · rename_i ha;rw [if_pos ha];exact hp _ _ _ h us hu
   · rename_i ha;rw [if_neg ha];exact hp _ _ _ h us hu
theorem app_map {α β:Type} {p:Rdr α} (hp:AppP p) (f:α→β):AppP (bindR p fun a=>retR (f a)):=fun ts b r h us hu=>by
 obtain ⟨a,r1,h1,h2⟩:=bind_ok h
 obtain ⟨e1,e2⟩:=Prod.mk.inj (Except.ok.inj h2)
 subst e1 e2
 unfold bindR
 rw [hp _ _ _ h1 us hu];rfl
theorem app_namesD:∀ (n:Nat) (acc:List ByteArray) (ts:List Tok),ts.length≤n→∀ l r,namesD barB acc ts=.ok (l,r)→∀ us,atB 1 barB us=false→namesD barB acc (ts++us)=.ok (l,r++us):=by
 intro n
 induction n using Nat.strongRecOn with
 | ind n ih =>
   intro acc ts hn l r h us hu
   rw [namesD_eq] at h ⊢
   unfold ifR at h ⊢
   cases ts with
   | nil =>
     rw [if_neg (by simp [atB])] at h
     obtain ⟨e1,e2⟩:=Prod.mk.inj (Except.ok.inj h)
     subst e1 e2
     rw [List.nil_append,if_neg (by rw [hu];simp)];rfl
   | cons t ts =>
     rw [at_head (r:=t :: ts) (r':=t :: ts++us) rfl]
     split at h
     · rename_i ha
       rw [if_pos ha]
       cases ts with
       | nil=>cases h
       | cons u ts =>
         unfold nmR at h ⊢
         simp only [List.cons_append,List.tail_cons,name_cons] at h ⊢
         by_cases ht:u.1=2
         · rw [if_pos ht] at h ⊢
           exact ih ts.length (by simp at hn;omega) _ ts (Nat.le_refl _) l r h us hu
         · rw [if_neg ht] at h;cases h
     · rename_i ha
       rw [if_neg ha]
       obtain ⟨e1,e2⟩:=Prod.mk.inj (Except.ok.inj h)
       subst e1 e2;rfl
theorem app_names:AppP (namesR barB):=by
 have hQ:AppP (namesQ barB):=app_nm fun n=>fun ts l r h us hu=>app_namesD _ _ ts (Nat.le_refl _) l r h us hu
 rw [namesR_eq];exact app_if hQ hQ noz_nm
def bodyD (d:Nat) (k:Int) (n:ByteArray):Rdr DefnT:=
 if k=1∨k=2 then bindR facesR fun fs=>ifR 1 omB (bindR (serD (fdR d) addL cmB []) fun l=>retR ⟨k,n,fs,l,[],[]⟩) (errR 2)
 else if k=3 then ifR 1 eqB (bindR (namesR barB) fun l=>retR ⟨k,n,[],[],l,[]⟩) (errR 2)
 else if k=4 then ifR 1 omB (bindR (serD enR addL cmB []) fun l=>retR ⟨k,n,[],[],l,[]⟩) (errR 2)
 else ifR 1 omB (bindR (serD (parR d) addL cmB []) fun l=>retR ⟨k,n,[],[],[],l⟩) (errR 2)
theorem body_eq (d:Nat) (k:Int) (n:ByteArray):bodyR d k n=bodyD d k n:=by
 funext ts
 unfold bodyR bodyD
 split
 · unfold bindR ifR
   cases facesR ts with
   | error x=>rfl
   | ok q =>
     obtain ⟨fs,r⟩:=q
     simp only
     split
     · unfold serD
       cases serR (fdR d) addL cmB (r.tail.length+1) [] r.tail<;>rfl
     · rfl
 · split
   · unfold ifR bindR
     split
     · cases namesR barB ts.tail<;>rfl
     · rfl
   · split
     · unfold ifR bindR serD
       split
       · cases serR enR addL cmB (ts.tail.length+1) [] ts.tail<;>rfl
       · rfl
     · unfold ifR bindR serD
       split
       · cases serR (parR d) addL cmB (ts.tail.length+1) [] ts.tail<;>rfl
       · rfl
theorem app_body (d:Nat) (k:Int) (n:ByteArray):AppP (bodyR d k n):=by
 rw [body_eq]
 unfold bodyD
 split
 · exact app_tail (tail_bind suf_faces par_faces nil_faces fun _=>tail_if (tail_map (tail_ser (str_fd d) (nil_fd d) (fun n=>par_fd n d) _) _) tail_err)
 · split
   · exact app_if (app_map app_names _) app_err noz_err
   · split
     · exact app_tail (tail_if (tail_map (tail_ser str_en nil_en par_en _) _) tail_err)
     · exact app_tail (tail_if (tail_map (tail_ser (str_par d) (nil_par d) (fun n=>par_par n d) _) _) tail_err)
theorem defn_eq (d:Nat):defnR d=nmR (fun w=>if kindW w=0 then errR 2 else nmR (bodyR d (kindW w)) (errR 2)) (errR 2):=by
 funext ts
 unfold defnR nmR
 cases nameR ts with
 | none=>rfl
 | some q =>
   obtain ⟨w,r⟩:=q
   simp only
   split<;>rfl
theorem app_defn (d:Nat):AppP (defnR d):=by
 rw [defn_eq]
 refine app_nm fun w=>?_
 split
 · exact app_err
 · exact app_nm fun n=>app_body d _ n
def oneS:Rdr DefnT:=remR (defnR 0)
theorem app_oneS:AppP oneS:=app_rem (app_defn 0) (fun a r h=>by rw [defn_eq] at h;exact noz_nm _ _ h)
theorem str_oneS:Str oneS:=fun ts a r h=>(defn_sfx h).le (rem_suf ts)
theorem one_bar {ts:List Tok} {x:DefnT} {r:List Tok} (h:oneS ts=.ok (x,r)):atB 1 barB ts=false:=by
 cases ts with
 | nil=>rfl
 | cons t ts =>
   cases hb:atB 1 barB (t :: ts) with
   | false=>rfl
   | true =>
     have hb1:(t.1 == 1 && (t.2.toList == barB.toList))=true:=hb
     rw [Bool.and_eq_true] at hb1
     have ht:t.1=1:=by simpa using hb1.1
     have hk:kindB 5 (t :: ts)=false:=by show (t.1 == 5)=false;rw [ht];rfl
     unfold oneS remR remT at h
     rw [hk,if_neg (by simp),defn_eq] at h
     unfold nmR at h
     rw [name_cons,if_neg (by rw [ht];decide)] at h
     cases h
def NoSch (ts:List Tok):Prop:=∀ t,t ∈ ts→(t.1 == 2 && (t.2.toList == schemaB.toList))=false
theorem NoSch.sub {ts r:List Tok} (h:NoSch ts) (hs:r <:+ ts):NoSch r:=fun t ht=>h t (hs.subset ht)
theorem NoSch.at {ts:List Tok} (h:NoSch ts):atB 2 schemaB ts=false:=by
 cases ts with
 | nil=>rfl
 | cons t ts=>exact h t (List.mem_cons_self ..)
theorem NoSch.app {ts us:List Tok} (h:NoSch ts) (h':NoSch us):NoSch (ts++us):=fun t ht=>by
 rcases List.mem_append.1 ht with ht|ht
 · exact h t ht
 · exact h' t ht
def sdsF:Nat→List Tok→Except Int (List DefnT)
 | 0,_=>.error 2
 | f+1,ts =>
   match oneS ts with
   | .error x=>.error x
   | .ok (x,r)=>if r.isEmpty=true then .ok [x] else match sdsF f r with | .error e=>.error e | .ok l=>.ok (x :: l)
theorem schF_eq:∀ (f:Nat) (D:SchT) (ts:List Tok),NoSch ts→schF f false D ts=(match sdsF f ts with | .error e=>.error e | .ok l=>.ok ⟨D.defs++l,queryName,untold (D.defs++l)⟩)
 | 0,_,_,_=>rfl
 | f + 1,D,ts,hN=>by
   rw [schF,sdsF]
   rw [if_neg (by rw [(hN.sub (rem_suf ts)).at];simp)]
   show (match oneS ts with | .error x=>_ | .ok (d,r)=>_)=_
   cases ho:oneS ts with
   | error x=>rfl
   | ok q =>
     obtain ⟨x,r⟩:=q
     simp only
     split
     · rfl
     · rw [schF_eq f _ r (hN.sub (str_oneS _ _ _ ho).1)]
       cases sdsF f r with
       | error e=>rfl
       | ok l=>simp only [List.append_assoc,List.cons_append,List.nil_append]
theorem sdsF_fuel:∀ (f f':Nat) (ts:List Tok),ts.length < f→ts.length < f'→sdsF f ts=sdsF f' ts
 | 0,_,_,h,_=>absurd h (Nat.not_lt_zero _)
 | _+1,0,_,_,h=>absurd h (Nat.not_lt_zero _)
 | f + 1,f'+1,ts,h,h'=>by
   rw [sdsF,sdsF]
   cases ho:oneS ts with
   | error x=>rfl
   | ok q =>
     obtain ⟨x,r⟩:=q
     have:=(str_oneS _ _ _ ho).2
     simp only
     rw [sdsF_fuel f f' r (by omega) (by omega)]
def sdsD (ts:List Tok):Except Int (List DefnT):=sdsF (ts.length+1) ts
theorem sdsD_eq (ts:List Tok):sdsD ts=(match oneS ts with | .error x=>.error x | .ok (x,r)=>if r.isEmpty=true then .ok [x] else match sdsD r with | .error e=>.error e | .ok l=>.ok (x :: l)):=by
 unfold sdsD
 rw [sdsF]
 cases ho:oneS ts with
 | error x=>rfl
 | ok q =>
   obtain ⟨x,r⟩:=q
   have:=(str_oneS _ _ _ ho).2
   simp only
   rw [sdsF_fuel ts.length (r.length+1) r (by omega) (by omega)]
theorem sds_bar {us:List Tok} {m:List DefnT} (h:sdsD us=.ok m):atB 1 barB us=false∧us ≠ []:=by
 rw [sdsD_eq] at h
 cases ho:oneS us with
 | error x=>rw [ho] at h;cases h
 | ok q =>
   obtain ⟨x,r⟩:=q
   refine ⟨one_bar ho,fun e=>?_⟩
   subst e
   have:=(str_oneS _ _ _ ho).2
   simp at this
theorem sds_app:∀ (n:Nat) (ts us:List Tok) (l m:List DefnT),ts.length≤n→sdsD ts=.ok l→sdsD us=.ok m→sdsD (ts++us)=.ok (l++m):=by
 intro n
 induction n using Nat.strongRecOn with
 | ind n ih =>
   intro ts us l m hn h hu
   obtain ⟨hbar,hne⟩:=sds_bar hu
   rw [sdsD_eq] at h
   cases ho:oneS ts with
   | error x=>rw [ho] at h;cases h
   | ok q =>
     obtain ⟨x,r⟩:=q
     rw [ho] at h
     simp only at h
     have hl:=(str_oneS _ _ _ ho).2
     rw [sdsD_eq,app_oneS _ _ _ ho us hbar]
     simp only
     split at h
     · rename_i hr
       have hr:r=[]:=List.isEmpty_iff.1 hr
       subst hr
       cases h
       rw [List.nil_append,if_neg (by simpa using hne),hu];rfl
     · cases hd:sdsD r with
       | error x=>rw [hd] at h;cases h
       | ok l2 =>
         rw [hd] at h
         cases h
         rw [ih r.length (by omega) r us l2 m (Nat.le_refl _) hd hu,if_neg (by simp;intro _ e;exact absurd e hne)];rfl
theorem sch_plain {ts:List Tok} {A:SchT} (hN:NoSch ts) (h:schR ts=.ok A):∃ l,sdsD ts=.ok l∧A=⟨l,queryName,untold l⟩:=by
 unfold schR at h
 rw [schF_eq _ _ _ hN] at h
 show ∃ l,sdsF (ts.length+1) ts=.ok l∧_
 cases hd:sdsF (ts.length+1) ts with
 | error e=>rw [hd] at h;cases h
 | ok l =>
   rw [hd] at h
   exact ⟨l,rfl,(Except.ok.inj h).symm⟩
theorem sch_app {ts us:List Tok} {A B:SchT} (hN:NoSch ts) (hM:NoSch us) (h:schR ts=.ok A) (h':schR us=.ok B):schR (ts++us)=.ok ⟨A.defs++B.defs,queryName,untold (A.defs++B.defs)⟩:=by
 obtain ⟨l,h1,rfl⟩:=sch_plain hN h
 obtain ⟨m,h2,rfl⟩:=sch_plain hM h'
 have h3:=sds_app _ ts us l m (Nat.le_refl _) h1 h2
 unfold schR
 rw [schF_eq _ _ _ (hN.app hM)]
 rw [show sdsF ((ts++us).length+1) (ts++us)=.ok (l++m) from h3]
 rfl
theorem untold_is (l:List DefnT):((untold l).toList == mutName.toList)=l.any (fun d=>d.name.toList == mutName.toList):=by
 unfold untold
 cases h:l.any (fun d=>d.name.toList == mutName.toList) with
 | true=>rw [if_pos rfl];simp
 | false=>rw [if_neg (by simp)];decide +kernel
theorem untold_app (l m:List DefnT):((untold (l++m)).toList == mutName.toList)=(((untold l).toList == mutName.toList) || ((untold m).toList == mutName.toList)):=by
 rw [untold_is,untold_is,untold_is,List.any_append]
theorem sd_parts {a:List UInt8} {ts:List (Int × List UInt8)} (h:readS a=(ts,0)):sourceB a=true∧readL a=some ts:=by
 unfold readS at h
 split at h
 · cases h
 · split at h
   · cases h
   · rename_i h2
     cases hr:readL a with
     | none=>rw [hr] at h;cases h
     | some us =>
       rw [hr] at h
       exact ⟨by simpa using h2,by rw [(Prod.mk.inj h).1]⟩
theorem sd_readS {a b:List UInt8} {ts us:List (Int × List UInt8)} (ha:readS a=(ts,0)) (hb:readS b=(us,0)) (hl:a.length+b.length+1≤8192):readS (a++10 :: b)=(ts++us,0):=by
 obtain ⟨a1,a2⟩:=sd_parts ha
 obtain ⟨b1,b2⟩:=sd_parts hb
 have hs:sourceB (a++10 :: b)=true:=by
  rw [source_append a1,source_cons b (by decide),b1]
  decide
 unfold readS
 rw [if_neg (by simp;omega),if_neg (by rw [hs];simp),readL_join a2 b2]
theorem swhole_parts {a:List UInt8} {A:SchT} (h:wholeA schRr a=.ok A):readS a=((readS a).1,0)∧schR (tokB (readS a).1)=.ok A:=by
 have h0:(readS a).2=0:=by
  unfold wholeA at h
  split at h
  · cases h
  · rename_i h9;simpa using h9
 have h1:readS a=((readS a).1,0):=by rw [← h0]
 rw [sch_of h1] at h
 exact ⟨h1,h⟩
def rootB (ts:List Tok):Bool:=ts.any fun t=>t.1 == 2 && (t.2.toList == schemaB.toList)
theorem nosch_of {ts:List Tok} (h:rootB ts=false):NoSch ts:=fun t ht=>by
 have:=List.any_eq_false.1 h t ht
 simpa using this
theorem join_sch {a b:List UInt8} {A B:SchT} (ha:wholeA schRr a=.ok A) (hb:wholeA schRr b=.ok B) (hN:rootB (tokB (readS a).1)=false) (hM:rootB (tokB (readS b).1)=false) (hl:a.length+b.length+1≤8192) :
   wholeA schRr (a++10 :: b)=.ok ⟨A.defs++B.defs,queryName,untold (A.defs++B.defs)⟩∧A.mutation=untold A.defs∧B.mutation=untold B.defs:=by
 obtain ⟨h1,h2⟩:=swhole_parts ha
 obtain ⟨h3,h4⟩:=swhole_parts hb
 refine ⟨?_,?_,?_⟩
 · rw [sch_of (sd_readS h1 h3 hl)]
   have:tokB ((readS a).1++(readS b).1)=tokB (readS a).1++tokB (readS b).1:=by unfold tokB;rw [List.map_append]
   rw [this,sch_app (nosch_of hN) (nosch_of hM) h2 h4]
 · obtain ⟨l,_,e⟩:=sch_plain (nosch_of hN) h2
   rw [e]
 · obtain ⟨l,_,e⟩:=sch_plain (nosch_of hM) h4
   rw [e]
def isSch (t:Tok):Bool:=t.1 == 2 && (t.2.toList == schemaB.toList)
theorem root_any (ts:List Tok):rootB ts=ts.any isSch:=rfl
theorem toks_cells {w:World} {base:Nat} {A:Option Addr} {cap:Nat} {ts:List (Int × List UInt8)} (h:w.ownsRow base 52 2 (.slice A ts.length cap) ts.length (tokVals ts)) (j:Nat) (t:Tok) (ht:(tokB ts)[j]? = some t) :
   ∃ g,A=some ⟨g,0,none⟩∧g < w.heap.size∧w.cell? ⟨g,j*2,none⟩=some (.int .i64 t.1)∧w.cell? ⟨g,j*2+1,none⟩=some (.string t.2):=by
 obtain ⟨h0,h1⟩:=ptokVals_at ts j t ht
 have hj:j < ts.length:=by have:=(List.getElem?_eq_some_iff.1 ht).1;rwa [tokB_len] at this
 have hlt:=h.lt
 rcases h.2 with ⟨e,hn⟩|⟨g,c,cur,e,_,_,_,_⟩
 · omega
 · injection e with e1 _ _
   subst e1
   refine ⟨g,rfl,(hlt g rfl).2,?_,?_⟩
   · rw [h.cellAt _ (by omega)];exact h0
   · rw [h.cellAt _ (by omega)];exact h1
theorem rooted_any (s:ByteArray) (w:World) (hs:s.size≤9000) (h3:Laid3 w):Calls Tryz.prog 43 #[.string s] w fun e w'=>e=.returned (.bool (rootB (tokB (readS s.data.toList).1)))∧Below w.heap.size w w':=by
 have HT:=Hd (read_any s w hs h3)
 have hl:=readS_len hs
 obtain ⟨⟨ts,er⟩,hr⟩:∃ p,readS s.data.toList=p:=⟨_,rfl⟩
 rw [hr] at HT hl ⊢
 replace hl:ts.length≤9001:=hl
 show Calls _ _ _ _ fun e w'=>e=.returned (.bool (rootB (tokB ts)))∧Below w.heap.size w w'
 clear hr h3
 go_enter Tryz.func43,Tryz.ntmps43
 go_wp2_with fail
 refine HT.out.mono ?_
 rintro e w1 ⟨A,cap,rfl,hown,hb1⟩
 have HC:=Hd (toks_cells hown)
 have B1:=Hd hb1
 clear hown hb1 HT
 go_wp2_with fail
 go_loopg [5] ts.length (fun g i wx=>∃ q:Nat,q+g=ts.length∧i=.int .i64 q∧wx=w1∧((tokB ts).take q).any isSch=false)
 case atStart=>exact ⟨0,by omega,rfl,rfl,by simp⟩
 case round =>
  obtain ⟨q,hq,rfl,rfl,hany⟩:=hrel
  have HN:=Hd hany
  clear hany
  cases gk with
  | zero =>
    obtain rfl:q=ts.length:=by omega
    go_wp2_with fail
    go_ret
    refine ⟨?_,B1.out⟩
    have h:=HN.out
    rw [← tokB_len,List.take_length] at h
    rw [root_any,h];rfl
  | succ g =>
    have hql:q < (tokB ts).length:=by rw [tokB_len];omega
    obtain ⟨t,ht⟩:∃ t,(tokB ts)[q]=t:=⟨_,rfl⟩
    obtain ⟨b,rfl,hb,g0,g1⟩:=HC.out q t (by rw [← ht];exact List.getElem?_eq_getElem hql)
    have HX:Hid (((tokB ts).take (q+1)).any isSch=(((tokB ts).take q).any isSch || isSch t)):=Hd (by rw [List.take_succ_eq_append_getElem hql,List.any_append,ht];simp)
    have HM:Hid (isSch t=true→rootB (tokB ts)=true):=Hd (fun h=>by rw [root_any];exact List.any_eq_true.2 ⟨t,by rw [← ht];exact List.getElem_mem hql,h⟩)
    have hqi:(q:Int) < (ts.length:Int):=by omega
    obtain ⟨tk,tx⟩:=t
    have HI:Hid (isSch (tk,tx)=(tk == 2 && (tx.toList == [115,99,104,101,109,97]))):=Hd (by unfold isSch;rw [show schemaB.toList=[115,99,104,101,109,97] by decide +kernel])
    clear hql ht
    dsimp only at g0 g1
    cases h1:(tk == 2) with
    | false =>
      have hI:=HI.out
      rw [h1] at hI
      have HF:Hid (((tokB ts).take (q+1)).any isSch=false):=Hd (by rw [HX.out,HN.out,hI];rfl)
      clear hI HX HM HI
      go_wp2_with fail
      go_roundg g
      case measure=>omega
      case rel=>exact ⟨q+1,by omega,by go_num,rfl,HF.out⟩
    | true =>
      cases h2:(tx.toList == [115,99,104,101,109,97]) with
      | false =>
        have hI:=HI.out
        rw [h1,h2] at hI
        have HF:Hid (((tokB ts).take (q+1)).any isSch=false):=Hd (by rw [HX.out,HN.out,hI];rfl)
        clear hI HX HM HI
        go_wp2_with fail
        go_roundg g
        case measure=>omega
        case rel=>exact ⟨q+1,by omega,by go_num,rfl,HF.out⟩
      | true =>
        have hI:=HI.out
        rw [h1,h2] at hI
        have HF:Hid (rootB (tokB ts)=true):=Hd (HM.out hI)
        clear hI HX HM HI
        go_wp2_with fail
        go_ret
        exact ⟨by rw [HF.out];rfl,B1.out⟩
end Go.Proofs.YtkacnnhdfkpenaaGreatDoor
