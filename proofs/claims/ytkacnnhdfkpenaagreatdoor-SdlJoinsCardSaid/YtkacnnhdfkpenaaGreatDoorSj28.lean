/- Readers of tokens as plain functions: what is read hangs on what is read, and on the token behind it; a text that is cut off within ends there. -/
import Derived.Test.YtkacnnhdfkpenaaGreatDoorSj18
namespace Go.Proofs.YtkacnnhdfkpenaaGreatDoor
def Ends {α:Type} (R:Except Int (α × List Tok)):Prop:=R=.error 2∨∃ a,R=.ok (a,[])
abbrev Rdr (α:Type):=List Tok→Except Int (α × List Tok)
def Suf {α:Type} (p:Rdr α):Prop:=∀ ts a r,p ts=.ok (a,r)→r <:+ ts
def Str {α:Type} (p:Rdr α):Prop:=∀ ts a r,p ts=.ok (a,r)→Sfx r ts
theorem Str.suf {α:Type} {p:Rdr α} (h:Str p):Suf p:=fun ts a r e=>(h ts a r e).1
structure ParN {α:Type} (n:Nat) (p:Rdr α):Prop where
 loc:∀ pre rest a,pre.length≤n→p (pre++rest)=.ok (a,rest)→∀ rest',rest'.head? = rest.head?→p (pre++rest')=.ok (a,rest')
 cut:∀ pre rest a,pre.length≤n→p (pre++rest)=.ok (a,rest)→∀ c,c <+: pre→Ends (p c)
def Nil {α:Type} (p:Rdr α):Prop:=Ends (p [])
theorem ParN.less {α:Type} {n m:Nat} {p:Rdr α} (h:ParN n p) (hm:m≤n):ParN m p:=
 ⟨fun pre rest a hl=>h.loc pre rest a (Nat.le_trans hl hm),fun pre rest a hl=>h.cut pre rest a (Nat.le_trans hl hm)⟩
theorem sfx_app {r ts:List Tok} (h:r <:+ ts):∃ pre,ts=pre++r:=by
 obtain ⟨p,h⟩:=h;exact ⟨p,h.symm⟩
theorem head_app {pre r r':List Tok} (h:r'.head? = r.head?):(pre++r').head? = (pre++r).head?:=by
 cases pre with
 | nil=>exact h
 | cons t pre=>rfl
theorem at_head {k:Int} {s:ByteArray} {r r':List Tok} (h:r'.head? = r.head?):atB k s r'=atB k s r:=by
 cases r with
 | nil=>cases r' with
   | nil=>rfl
   | cons t r'=>simp at h
 | cons u r=>cases r' with
   | nil=>simp at h
   | cons t r'=>simp at h;subst h;rfl
theorem par_err {α:Type} (n:Nat) (x:Int):ParN n (fun _=>(.error x:Except Int (α × List Tok))):=⟨fun _ _ _ _ h=>(by cases h),fun _ _ _ _ h=>(by cases h)⟩
theorem app_self {pre rest:List Tok} (h:pre++rest=rest):pre=[]:=by
 have:=congrArg List.length h
 rw [List.length_append] at this
 exact List.eq_nil_of_length_eq_zero (by omega)
theorem par_ret {α:Type} (n:Nat) (a:α):ParN n (fun ts=>.ok (a,ts)):=by
 refine ⟨fun pre rest b _ h rest' _=>?_,fun pre rest b _ h c hc=>?_⟩
 · obtain ⟨e1,e2⟩:=Prod.mk.inj (Except.ok.inj h)
   subst e1
   rw [app_self e2];rfl
 · obtain ⟨_,e2⟩:=Prod.mk.inj (Except.ok.inj h)
   rw [app_self e2] at hc
   rw [List.prefix_nil.1 hc]
   exact .inr ⟨_,rfl⟩
theorem nil_ret {α:Type} (a:α):Nil (fun ts=>.ok (a,ts)):=.inr ⟨_,rfl⟩
theorem nil_err {α:Type} : Nil (fun _=>(.error 2:Except Int (α × List Tok))):=.inl rfl
def bindR {α β:Type} (p:Rdr α) (q:α→Rdr β):Rdr β:=fun ts=>match p ts with | .error x=>.error x | .ok (a,r)=>q a r
theorem bind_ok {α β:Type} {p:Rdr α} {q:α→Rdr β} {ts r:List Tok} {b:β} (h:bindR p q ts=.ok (b,r)):∃ a r1,p ts=.ok (a,r1)∧q a r1=.ok (b,r):=by
 unfold bindR at h
 cases hp:p ts with
 | error x=>rw [hp] at h;cases h
 | ok z=>obtain ⟨a,r1⟩:=z;rw [hp] at h;exact ⟨a,r1,rfl,h⟩
theorem suf_bind {α β:Type} {p:Rdr α} {q:α→Rdr β} (hp:Suf p) (hq:∀ a,Suf (q a)):Suf (bindR p q):=fun ts b r h=>by
 obtain ⟨a,r1,h1,h2⟩:=bind_ok h
 exact (hq a _ _ _ h2).trans (hp _ _ _ h1)
theorem par_bind' {α β:Type} {n:Nat} {p:Rdr α} {q:α→Rdr β} (sp:Str p) (sq:∀ a,Suf (q a)) (hp:ParN n p) (hq:∀ a m,m < n→ParN m (q a)) (zq:∀ a,Nil (q a)):ParN n (bindR p q):=by
 have split:∀ pre rest b,pre.length≤n→bindR p q (pre++rest)=.ok (b,rest)→∃ a p1 p2,pre=p1++p2∧p2.length < n∧p1.length≤n∧p (p1++(p2++rest))=.ok (a,p2++rest)∧q a (p2++rest)=.ok (b,rest):=by
   intro pre rest b hl h
   obtain ⟨a,r1,h1,h2⟩:=bind_ok h
   obtain ⟨p2,e2⟩:=sfx_app (sq a _ _ _ h2)
   subst e2
   obtain ⟨p1,e1⟩:=sfx_app (sp _ _ _ h1).1
   have e:=e1
   rw [← List.append_assoc] at e
   have e:=List.append_cancel_right e
   have hs:=(sp _ _ _ h1).2
   rw [e1] at h1 hs
   have hlen:pre.length=p1.length+p2.length:=by rw [e,List.length_append]
   simp only [List.length_append] at hs
   exact ⟨a,p1,p2,e,by omega,by omega,h1,h2⟩
 refine ⟨fun pre rest b hl h rest' hr=>?_,fun pre rest b hl h c hc=>?_⟩
 · obtain ⟨a,p1,p2,rfl,l2,l1,h1,h2⟩:=split pre rest b hl h
   have e1:=hp.loc p1 _ a l1 h1 (p2++rest') (head_app hr)
   have e2:=(hq a _ l2).loc p2 rest b (Nat.le_refl _) h2 rest' hr
   rw [List.append_assoc]
   unfold bindR
   rw [e1];exact e2
 · obtain ⟨a,p1,p2,rfl,l2,l1,h1,h2⟩:=split pre rest b hl h
   by_cases hcl:c.length≤p1.length
   · have hc1:c <+: p1:=List.prefix_of_prefix_length_le hc (List.prefix_append _ _) hcl
     rcases hp.cut p1 _ a l1 h1 c hc1 with e|⟨a',e⟩
     · exact .inl (by unfold bindR;rw [e])
     · have:=zq a'
       unfold bindR
       unfold Ends
       rw [e];exact this
   · obtain ⟨c2,rfl⟩:∃ c2,c=p1++c2:=by
       have:p1 <+: c:=List.prefix_of_prefix_length_le (List.prefix_append _ _) hc (by omega)
       obtain ⟨c2,e⟩:=this
       exact ⟨c2,e.symm⟩
     have hc2:c2 <+: p2:=(List.prefix_append_right_inj p1).1 hc
     have hh:c2.head? = (p2++rest).head?:=by
       cases c2 with
       | nil=>simp at hcl
       | cons t c2 =>
         obtain ⟨z,hz⟩:=hc2
         rw [← hz];rfl
     have e1:=hp.loc p1 _ a l1 h1 c2 hh
     have:=(hq a _ l2).cut p2 rest b (Nat.le_refl _) h2 c2 hc2
     unfold bindR
     rw [e1];exact this
theorem par_bind {α β:Type} {n:Nat} {p:Rdr α} {q:α→Rdr β} (sp:Suf p) (sq:∀ a,Suf (q a)) (hp:ParN n p) (hq:∀ a,ParN n (q a)) (zq:∀ a,Nil (q a)):ParN n (bindR p q):=by
 have split:∀ pre rest b,pre.length≤n→bindR p q (pre++rest)=.ok (b,rest)→∃ a p1 p2,pre=p1++p2∧p2.length≤n∧p1.length≤n∧p (p1++(p2++rest))=.ok (a,p2++rest)∧q a (p2++rest)=.ok (b,rest):=by
   intro pre rest b hl h
   obtain ⟨a,r1,h1,h2⟩:=bind_ok h
   obtain ⟨p2,e2⟩:=sfx_app (sq a _ _ _ h2)
   subst e2
   obtain ⟨p1,e1⟩:=sfx_app (sp _ _ _ h1)
   have e:=e1
   rw [← List.append_assoc] at e
   have e:=List.append_cancel_right e
   rw [e1] at h1
   have hlen:pre.length=p1.length+p2.length:=by rw [e,List.length_append]
   exact ⟨a,p1,p2,e,by omega,by omega,h1,h2⟩
 refine ⟨fun pre rest b hl h rest' hr=>?_,fun pre rest b hl h c hc=>?_⟩
 · obtain ⟨a,p1,p2,rfl,l2,l1,h1,h2⟩:=split pre rest b hl h
   have e1:=hp.loc p1 _ a l1 h1 (p2++rest') (head_app hr)
   have e2:=(hq a).loc p2 rest b l2 h2 rest' hr
   rw [List.append_assoc]
   unfold bindR
   rw [e1];exact e2
 · obtain ⟨a,p1,p2,rfl,l2,l1,h1,h2⟩:=split pre rest b hl h
   by_cases hcl:c.length≤p1.length
   · have hc1:c <+: p1:=List.prefix_of_prefix_length_le hc (List.prefix_append _ _) hcl
     rcases hp.cut p1 _ a l1 h1 c hc1 with e|⟨a',e⟩
     · exact .inl (by unfold bindR;rw [e])
     · have:=zq a'
       unfold bindR
       unfold Ends
       rw [e];exact this
   · obtain ⟨c2,rfl⟩:∃ c2,c=p1++c2:=by
       have:p1 <+: c:=List.prefix_of_prefix_length_le (List.prefix_append _ _) hc (by omega)
       obtain ⟨c2,e⟩:=this
       exact ⟨c2,e.symm⟩
     have hc2:c2 <+: p2:=(List.prefix_append_right_inj p1).1 hc
     have hh:c2.head? = (p2++rest).head?:=by
       cases c2 with
       | nil=>simp at hcl
       | cons t c2 =>
         obtain ⟨z,hz⟩:=hc2
         rw [← hz];rfl
     have e1:=hp.loc p1 _ a l1 h1 c2 hh
     have:=(hq a).cut p2 rest b l2 h2 c2 hc2
     unfold bindR
     rw [e1];exact this
theorem nil_bind {α β:Type} {p:Rdr α} {q:α→Rdr β} (zp:Nil p) (zq:∀ a,Nil (q a)):Nil (bindR p q):=by
 rcases zp with e|⟨a,e⟩
 · exact .inl (by unfold bindR;rw [e])
 · have:=zq a
   unfold Nil Ends bindR
   rw [e];exact this
def ifR {α:Type} (k:Int) (s:ByteArray) (p q:Rdr α):Rdr α:=fun ts=>if atB k s ts=true then p ts.tail else q ts
theorem suf_if {α:Type} {k:Int} {s:ByteArray} {p q:Rdr α} (hp:Suf p) (hq:Suf q):Suf (ifR k s p q):=fun ts a r h=>by
 unfold ifR at h
 split at h
 · rename_i ha;exact (hp _ _ _ h).trans (at_sfx ha).1
 · exact hq _ _ _ h
theorem str_if {α:Type} {k:Int} {s:ByteArray} {p q:Rdr α} (hp:Suf p) (hq:Str q):Str (ifR k s p q):=fun ts a r h=>by
 unfold ifR at h
 split at h
 · rename_i ha;exact Sfx.of (hp _ _ _ h) (at_sfx ha)
 · exact hq _ _ _ h
theorem par_if {α:Type} {n:Nat} {k:Int} {s:ByteArray} {p q:Rdr α} (sp:Suf p) (hp:∀ m,m < n→ParN m p) (hq:ParN n q) (zq:Nil q):ParN n (ifR k s p q):=by
 have zz:Ends (ifR k s p q []):=by unfold ifR;rw [if_neg (by simp [atB])];exact zq
 have key:∀ pre rest a,atB k s (pre++rest)=true→p (pre++rest).tail=.ok (a,rest)→∃ t p1,pre=t :: p1:=by
   intro pre rest a ha h
   cases pre with
   | cons t p1=>exact ⟨t,p1,rfl⟩
   | nil =>
     have h1:=(sp _ _ _ h).length_le
     have h2:=(at_sfx ha).2
     simp only [List.nil_append] at h1 h2
     omega
 refine ⟨fun pre rest a hl h rest' hr=>?_,fun pre rest a hl h c hc=>?_⟩
 · unfold ifR at h ⊢
   rw [at_head (head_app hr)]
   split at h
   · rename_i ha
     obtain ⟨t,p1,rfl⟩:=key pre rest a ha h
     rw [if_pos ha]
     exact (hp p1.length (by simp at hl ⊢;omega)).loc p1 rest a (Nat.le_refl _) h rest' hr
   · rename_i ha
     rw [if_neg ha]
     exact hq.loc pre rest a hl h rest' hr
 · cases c with
   | nil=>exact zz
   | cons u c =>
     obtain ⟨z,hz⟩:=hc
     have hh:(u :: c).head? = (pre++rest).head?:=by rw [← hz];rfl
     unfold ifR at h ⊢
     rw [at_head hh]
     split at h
     · rename_i ha
       rw [if_pos ha]
       rw [← hz] at h hl
       exact (hp (c++z).length (by simp at hl ⊢;omega)).cut (c++z) rest a (Nat.le_refl _) h c (List.prefix_append _ _)
     · rename_i ha
       rw [if_neg ha]
       exact hq.cut pre rest a hl h _ ⟨z,hz⟩
theorem nil_if {α:Type} {k:Int} {s:ByteArray} {p q:Rdr α} (zq:Nil q):Nil (ifR k s p q):=by
 unfold Nil ifR;rw [if_neg (by simp [atB])];exact zq
def Head (b:List Tok→Bool):Prop:=b []=false∧∀ r r':List Tok,r'.head? = r.head?→b r'=b r
def nmR {α:Type} (p:ByteArray→Rdr α) (q:Rdr α):Rdr α:=fun ts=>match nameR ts with|none=>q ts|some (n,r)=>p n r
theorem name_cons (t:Tok) (ts:List Tok):nameR (t :: ts)=if t.1=2 then some (t.2,ts) else none:=rfl
theorem suf_nm {α:Type} {p:ByteArray→Rdr α} {q:Rdr α} (hp:∀ n,Suf (p n)) (hq:Suf q):Suf (nmR p q):=fun ts a r h=>by
 unfold nmR at h
 cases hn:nameR ts with
 | none=>rw [hn] at h;exact hq _ _ _ h
 | some z=>obtain ⟨n,r1⟩:=z;rw [hn] at h;exact (hp n _ _ _ h).trans (name_sfx hn).1
theorem par_nm {α:Type} {m:Nat} {p:ByteArray→Rdr α} {q:Rdr α} (sp:∀ n,Suf (p n)) (hp:∀ n k,k < m→ParN k (p n)) (hq:ParN m q) (zq:Nil q):ParN m (nmR p q):=by
 refine ⟨fun pre rest a hl h rest' hr=>?_,fun pre rest a hl h c hc=>?_⟩
 · cases pre with
   | nil =>
     cases rest with
     | nil =>
       cases rest' with
       | nil=>exact h
       | cons t r=>simp at hr
     | cons t r =>
       cases rest' with
       | nil=>simp at hr
       | cons u r' =>
         simp at hr
         subst hr
         unfold nmR at h ⊢
         simp only [List.nil_append,name_cons] at h ⊢
         by_cases ht:u.1=2
         · rw [if_pos ht] at h
           have:=(sp _ _ _ _ h).length_le
           simp at this
           omega
         · rw [if_neg ht] at h ⊢
           exact hq.loc [] (u :: r) a (by simp) h (u :: r') rfl
   | cons t pre =>
     unfold nmR at h ⊢
     simp only [List.cons_append,name_cons] at h ⊢
     by_cases ht:t.1=2
     · rw [if_pos ht] at h ⊢
       exact (hp _ pre.length (by simp at hl ⊢;omega)).loc pre rest a (Nat.le_refl _) h rest' hr
     · rw [if_neg ht] at h ⊢
       exact hq.loc (t :: pre) rest a hl h rest' hr
 · cases c with
   | nil=>exact zq
   | cons u c =>
     obtain ⟨z,hz⟩:=hc
     subst hz
     unfold nmR at h ⊢
     simp only [List.cons_append,name_cons] at h ⊢
     by_cases ht:u.1=2
     · rw [if_pos ht] at h ⊢
       exact (hp _ (c++z).length (by simp at hl ⊢;omega)).cut (c++z) rest a (Nat.le_refl _) h c (List.prefix_append _ _)
     · rw [if_neg ht] at h ⊢
       exact hq.cut (u :: (c++z)) rest a hl h (u :: c) ⟨z,rfl⟩
theorem nil_nm {α:Type} {p:ByteArray→Rdr α} {q:Rdr α} (zq:Nil q):Nil (nmR p q):=zq
def Free {α:Type} (n:Nat) (p:Rdr α):Prop:=∀ pre rest a,pre.length≤n→p (pre++rest)=.ok (a,rest)→∀ rest',p (pre++rest')=.ok (a,rest')
theorem free_ret {α:Type} (n:Nat) (a:α):Free n (fun ts=>.ok (a,ts)):=fun pre rest b _ h rest'=>by
 obtain ⟨e1,e2⟩:=Prod.mk.inj (Except.ok.inj h)
 subst e1
 rw [app_self e2];rfl
theorem free_err {α:Type} (n:Nat) (x:Int):Free n (fun _=>(.error x:Except Int (α × List Tok))):=fun _ _ _ _ h=>by cases h
theorem str_ne {α:Type} {p:Rdr α} (h:Str p) {pre rest:List Tok} {a:α} (e:p (pre++rest)=.ok (a,rest)):∃ t p1,pre=t :: p1:=by
 cases pre with
 | cons t p1=>exact ⟨t,p1,rfl⟩
 | nil=>have:=(h _ _ _ e).2;simp at this
theorem free_bind {α β:Type} {n:Nat} {p:Rdr α} {q:α→Rdr β} (sp:Suf p) (sq:∀ a,Str (q a)) (hp:∀ n,ParN n p) (hq:∀ a,Free n (q a)):Free n (bindR p q):=by
 intro pre rest b hl h rest'
 obtain ⟨a,r1,h1,h2⟩:=bind_ok h
 obtain ⟨p2,e2⟩:=sfx_app (sq a _ _ _ h2).1
 subst e2
 obtain ⟨p1,e1⟩:=sfx_app (sp _ _ _ h1)
 have e:=e1
 rw [← List.append_assoc] at e
 have e:=List.append_cancel_right e
 subst e
 rw [e1] at h1
 obtain ⟨t,p3,rfl⟩:=str_ne (sq a) h2
 have e1:=(hp p1.length).loc p1 _ a (Nat.le_refl _) h1 (t :: p3++rest') rfl
 rw [List.append_assoc]
 unfold bindR
 rw [List.length_append] at hl
 rw [e1];exact hq a _ _ _ (by omega) h2 rest'
theorem free_bind' {α β:Type} {n:Nat} {p:Rdr α} {q:α→Rdr β} (sp:Str p) (sq:∀ a,Str (q a)) (hp:∀ n,ParN n p) (hq:∀ a m,m < n→Free m (q a)):Free n (bindR p q):=by
 intro pre rest b hl h rest'
 obtain ⟨a,r1,h1,h2⟩:=bind_ok h
 obtain ⟨p2,e2⟩:=sfx_app (sq a _ _ _ h2).1
 subst e2
 obtain ⟨p1,e1⟩:=sfx_app (sp _ _ _ h1).1
 have e:=e1
 rw [← List.append_assoc] at e
 have e:=List.append_cancel_right e
 subst e
 rw [e1] at h1
 obtain ⟨u,p0,rfl⟩:=str_ne sp h1
 obtain ⟨t,p3,rfl⟩:=str_ne (sq a) h2
 have e1:=(hp (u :: p0).length).loc (u :: p0) _ a (Nat.le_refl _) h1 (t :: p3++rest') rfl
 rw [List.append_assoc]
 unfold bindR
 simp only [List.length_append,List.length_cons] at hl
 rw [e1];exact hq a (t :: p3).length (by simp only [List.length_cons];omega) _ _ _ (Nat.le_refl _) h2 rest'
theorem free_if {α:Type} {n:Nat} {k:Int} {s:ByteArray} {p q:Rdr α} (sp:Suf p) (sq:Str q) (hp:∀ m,m < n→Free m p) (hq:Free n q):Free n (ifR k s p q):=by
 intro pre rest a hl h rest'
 have st:Str (ifR k s p q):=str_if sp sq
 obtain ⟨t,p1,rfl⟩:=str_ne st h
 unfold ifR at h ⊢
 rw [at_head (r:=t :: p1++rest) (r':=t :: p1++rest') rfl]
 split at h
 · rename_i ha;rw [if_pos ha];exact hp p1.length (by simp at hl ⊢;omega) p1 rest a (Nat.le_refl _) h rest'
 · rename_i ha;rw [if_neg ha];exact hq _ _ _ hl h rest'
theorem str_err {α:Type} (x:Int):Str (fun _=>(.error x:Except Int (α × List Tok))):=fun _ _ _ h=>by cases h
theorem suf_ret {α:Type} (a:α):Suf (fun ts=>.ok (a,ts)):=fun ts b r h=>by
 obtain ⟨_,e2⟩:=Prod.mk.inj (Except.ok.inj h)
 subst e2;exact List.suffix_refl _
end Go.Proofs.YtkacnnhdfkpenaaGreatDoor
