/- What is read out of a good text are tokens that may be: plain mathematics. -/
import Derived.Test.YtkacnnhdfkpenaaGreatDoorSj40
namespace Go.Proofs.YtkacnnhdfkpenaaGreatDoor
theorem run_take (l:List UInt8) (j:Nat):runL (l.take j)=min j (runL l):=by
 unfold runL
 induction l generalizing j with
 | nil=>simp
 | cons b t ih =>
   cases j with
   | zero=>simp
   | succ j =>
     rw [List.take_succ_cons,List.takeWhile_cons,List.takeWhile_cons]
     split
     · simp only [List.length_cons];rw [ih j];omega
     · simp
theorem frac_take {l:List UInt8} {j:Nat} (h:fracL l≤j):fracL (l.take j)=fracL l:=by
 cases l with
 | nil=>simp
 | cons b t =>
   cases j with
   | zero => have:fracL (b :: t)=0:=by omega
             rw [this];rfl
   | succ j =>
     rw [List.take_succ_cons]
     simp only [fracL] at h ⊢
     rw [run_take]
     split
     · rename_i hb
       rw [if_pos hb] at h
       by_cases h0:runL t=0
       · rw [h0];simp
       · rw [if_neg h0] at h
         rw [show min j (runL t)=runL t by omega]
     · rfl
theorem sign_take {l:List UInt8} {j:Nat} (h:j ≠ 0):signL (l.take j)=signL l:=by
 cases l with
 | nil=>simp
 | cons b t =>
   cases j with
   | zero=>exact absurd rfl h
   | succ j=>rw [List.take_succ_cons];rfl
theorem expo_take {l:List UInt8} {j:Nat} (h:expoL l≤j):expoL (l.take j)=expoL l:=by
 cases l with
 | nil=>simp
 | cons b t =>
   cases j with
   | zero => have:expoL (b :: t)=0:=by omega
             rw [this];rfl
   | succ j =>
     rw [List.take_succ_cons]
     simp only [expoL] at h ⊢
     split
     · rename_i hb
       rw [if_pos hb] at h
       by_cases h0:runL (t.drop (signL t))=0
       · rw [if_pos h0] at h
         rw [if_pos h0]
         have:runL ((t.take j).drop (signL (t.take j)))=0:=by
           by_cases hj:j=0
           · subst hj;simp [runL]
           · rw [sign_take hj,List.drop_take,run_take,h0];simp
         rw [if_pos this]
       · rw [if_neg h0] at h
         have hj:j ≠ 0:=by omega
         rw [sign_take hj,List.drop_take,run_take,show min (j - signL t) (runL (t.drop (signL t)))=runL (t.drop (signL t)) by omega]
     · rfl
theorem minus_take {l:List UInt8} {j:Nat} (h:j ≠ 0):minusL (l.take j)=minusL l:=by
 cases l with
 | nil=>simp
 | cons b t =>
   cases j with
   | zero=>exact absurd rfl h
   | succ j=>rw [List.take_succ_cons];rfl
theorem whole_take {l:List UInt8} {j:Nat} (h:wholeL l≤j):wholeL (l.take j)=wholeL l:=by
 cases l with
 | nil=>simp
 | cons b t =>
   cases j with
   | zero => have:wholeL (b :: t)=0:=by omega
             rw [this];rfl
   | succ j =>
     have ht:(b :: t).take (j+1)=b :: t.take j:=List.take_succ_cons
     rw [ht]
     simp only [wholeL] at h ⊢
     split
     · rfl
     · rename_i hb
       rw [if_neg hb] at h
       rw [← ht,run_take];omega
theorem numeral_take (l:List UInt8):nmL (l.take (nmL l).1)=nmL l:=by
 by_cases h0:wholeL (l.drop (minusL l))=0
 · have e:nmL l=(0,0):=by unfold nmL;rw [if_pos h0]
   rw [e];rfl
 · obtain ⟨m,hm⟩:∃ m,minusL l=m:=⟨_,rfl⟩
   obtain ⟨w,hw⟩:∃ w,wholeL (l.drop m)=w:=⟨_,rfl⟩
   obtain ⟨f,hf⟩:∃ f,fracL (l.drop (m+w))=f:=⟨_,rfl⟩
   obtain ⟨x,hx⟩:∃ x,expoL (l.drop (m+w+f))=x:=⟨_,rfl⟩
   have e:nmL l=(m+w+f+x,if f=0∧x=0 then 3 else 4):=by
    unfold nmL
    rw [if_neg h0,hm,hw,hf,hx]
   have hw0:w ≠ 0:=by rw [← hw,← hm];exact h0
   rw [e]
   simp only
   have e1:minusL (l.take (m+w+f+x))=m:=by rw [minus_take (by omega)];exact hm
   have e2:wholeL ((l.take (m+w+f+x)).drop m)=w:=by rw [List.drop_take,whole_take (by rw [hw];omega)];exact hw
   have e3:fracL ((l.take (m+w+f+x)).drop (m+w))=f:=by rw [List.drop_take,frac_take (by rw [hf];omega)];exact hf
   have e4:expoL ((l.take (m+w+f+x)).drop (m+w+f))=x:=by rw [List.drop_take,expo_take (by rw [hx];omega)];exact hx
   unfold nmL
   rw [e1,e2,e3,e4,if_neg hw0]
theorem number_take {l:List UInt8} (h:(nbL l).1 ≠ 0):kindL (l.take (nbL l).1)=(nbL l).2∧((nbL l).2=3∨(nbL l).2=4):=by
 have e:nbL l=nmL l:=by
   unfold nbL at h ⊢
   split at h
   · exact absurd rfl h
   · rename_i h1
     split at h
     · exact absurd rfl h
     · rename_i h2
       rw [if_neg h1,if_neg h2]
 rw [e] at h ⊢
 have hle:=numeralL_le l
 have ht:=numeral_take l
 constructor
 · rw [kindL_eq,ht,if_neg (by rw [List.length_take];omega)]
 · unfold nmL at h ⊢
   split at h
   · exact absurd rfl h
   · rename_i h1
     rw [if_neg h1]
     simp only
     split
     · exact .inl rfl
     · exact .inr rfl
theorem good_bytes {l:List UInt8} (h:goodB l=true):∃ cs,cs.all okB=true∧bytesOf cs=l:=by
 rw [goodB_iff] at h
 cases hc:codes l with
 | none=>rw [hc] at h;cases h
 | some cs =>
   obtain ⟨a,b⟩:=bytes_codes _ l cs (Nat.le_refl _) hc
   exact ⟨cs,b,a⟩
theorem bytes_good {cs:List Int} (h:cs.all okB=true):goodB (bytesOf cs)=true:=by
 rw [goodB_iff]
 have:=codes_bytes cs [] h
 rw [List.append_nil,codes_nil] at this
 rw [this];rfl
theorem good_app {a:List UInt8} (ha:goodB a=true) (b:List UInt8):goodB (a++b)=goodB b:=by
 rw [goodB_iff] at ha ⊢
 rw [goodB_iff]
 cases hc:codes a with
 | none=>rw [hc] at ha;cases ha
 | some cs =>
   rw [codes_append hc]
   cases codes b<;>rfl
theorem good_asc_app:∀ {a:List UInt8} (b:List UInt8),(∀ x ∈ a,x.toNat < 128)→goodB (a++b)=goodB b
 | [],_,_=>rfl
 | c :: a,b,h=>by rw [List.cons_append,good_cons _ (h c (by simp)),good_asc_app b fun x hx=>h x (by simp [hx])]
theorem good_asc {a:List UInt8} (h:∀ x ∈ a,x.toNat < 128):goodB a=true:=by
 have:=good_asc_app [] h
 rw [List.append_nil] at this
 rw [this];rfl
theorem good_cut {b:UInt8} {t:List UInt8} (hb:b.toNat < 128):∀ (cs:List Int) (p:List UInt8),cs.all okB=true→bytesOf cs=p++b :: t→goodB p=true∧goodB t=true
 | [],p,_,h=>by have:=congrArg List.length h;simp [bytesOf] at this
 | c :: cs,p,hk,h=>by
   simp only [List.all_cons,Bool.and_eq_true] at hk
   have hok:0≤c∧c≤1114111∧halfB c=false:=by simpa [okB] using hk.1
   have h':Lib.encodeRune c++bytesOf cs=p++b :: t:=h
   have hone:goodB (Lib.encodeRune c)=true:=by
     have:=bytes_good (cs:=[c]) (by simp [hk.1])
     simpa [bytesOf] using this
   rcases List.append_eq_append_iff.1 h' with ⟨q,hp,hq⟩|⟨q,hp,hq⟩
   · have:=good_cut hb cs q hk.2 hq
     exact ⟨by rw [hp,good_app hone];exact this.1,this.2⟩
   · cases q with
     | nil =>
       rw [List.append_nil] at hp
       have hq:b :: t=bytesOf cs:=hq
       have:=good_cut hb cs [] hk.2 (by rw [List.nil_append];exact hq.symm)
       exact ⟨by rw [← hp];exact hone,this.2⟩
     | cons d q =>
       have hd:d=b:=by have:=(List.cons.inj hq).1;exact this.symm
       subst hd
       have hq2:t=q++bytesOf cs:=(List.cons.inj hq).2
       by_cases hc:128≤c
       · have:=enc_high hc d (by rw [hp];simp)
         omega
       · rw [enc_low hok.1 (by omega)] at hp
         cases p with
         | cons x p=>simp at hp
         | nil =>
           have:q=[]:=by simpa using (List.cons.inj hp).2.symm
           subst this
           rw [List.nil_append] at hq2
           exact ⟨rfl,by rw [hq2];exact bytes_good hk.2⟩
theorem good_split {b:UInt8} (hb:b.toNat < 128) {p t:List UInt8} (h:goodB (p++b :: t)=true):goodB p=true∧goodB t=true:=by
 obtain ⟨cs,h1,h2⟩:=good_bytes h
 exact good_cut hb cs p h1 h2
theorem asc_hex:∀ b:UInt8,hexB b=true→b.toNat < 128:=byte_all (by decide +kernel)
theorem asc_esc:∀ b:UInt8,(escB b).isSome=true→b.toNat < 128:=byte_all (by decide +kernel)
theorem asc_escd:∀ b:UInt8,(match escB b with|some x=>decide (x.toNat < 128)|none=>true)=true:=byte_all (by decide +kernel)
theorem unit_asc {l:List UInt8} {u:Int} (h:unitAt l=some u):∀ x ∈ l.take 6,x.toNat < 128:=by
 unfold unitAt at h
 split at h
 · rename_i x y a b c d r
   split at h
   · rename_i hh
     simp only [Bool.and_eq_true,beq_iff_eq] at hh
     obtain ⟨⟨⟨⟨⟨h1,h2⟩,h3⟩,h4⟩,h5⟩,h6⟩:=hh
     intro z hz
     have hz:z=x∨z=y∨z=a∨z=b∨z=c∨z=d:=by simpa using hz
     rcases hz with rfl|rfl|rfl|rfl|rfl|rfl
     · subst h1;decide
     · subst h2;decide
     · exact asc_hex _ h3
     · exact asc_hex _ h4
     · exact asc_hex _ h5
     · exact asc_hex _ h6
   · cases h
 · cases h
theorem run_asc:∀ (n:Nat) (l:List UInt8),l.length≤n→∀ x ∈ l.take (6*(hexRun l).length),x.toNat < 128
 | 0,l,h,x,hx=>by
   have:l=[]:=List.eq_nil_of_length_eq_zero (by omega)
   subst this;simp at hx
 | n + 1,l,h,x,hx=>by
   cases hu:unitAt l with
   | none=>rw [hexRun_none hu] at hx;simp at hx
   | some u =>
     have hl:=unitAt_len hu
     rw [hexRun_some hu,List.length_cons,show 6*((hexRun (l.drop 6)).length+1)=6+6*(hexRun (l.drop 6)).length by omega,List.take_add] at hx
     rcases List.mem_append.1 hx with hx|hx
     · exact unit_asc hu x hx
     · exact run_asc n (l.drop 6) (by rw [List.length_drop];omega) x hx
theorem esc_good {l : List UInt8} {q:List UInt8 × Nat} (h:escL l=some q) (hh:∃ t,l=92 :: t) (hg:goodB l=true):goodB q.1=true∧goodB (l.drop q.2)=true:=by
 unfold escL at h
 split at h
 · obtain ⟨t0,ht0⟩:=hh
   subst ht0
   cases t0 with
   | nil=>cases h
   | cons c r =>
     change (escB c).map (fun x=>([x],2))=some q at h
     cases he:escB c with
     | none=>rw [he] at h;cases h
     | some x =>
       rw [he] at h
       have h:=Option.some.inj h
       subst h
       have hx:=asc_escd c
       rw [he] at hx
       have hc:=asc_esc c (by rw [he];rfl)
       rw [good_cons _ (by decide),good_cons _ hc] at hg
       exact ⟨good_asc (by intro z hz;have:z=x:=by simpa using hz
                           subst this;simpa using hx),hg⟩
 · cases hj:joinL (hexRun l) with
   | none=>rw [hj] at h;cases h
   | some x =>
     rw [hj] at h
     have h:=Option.some.inj h
     subst h
     unfold joinL at hj
     cases hp:pairUp (hexRun l) with
     | none=>rw [hp] at hj;cases hj
     | some cs =>
       rw [hp] at hj
       have hj:=Option.some.inj hj
       subst hj
       refine ⟨bytes_good (units_of_pairUp _ _ _ (Nat.le_refl _) hp).2,?_⟩
       have:=good_asc_app (l.drop (6*(hexRun l).length)) (run_asc _ l (Nat.le_refl _))
       rw [List.take_append_drop] at this
       rw [← this];exact hg
theorem line_good:∀ (n:Nat) (l:List UInt8) (q:List UInt8 × Nat) (p:List UInt8),lineF n l=some q→goodB (p++l)=true→goodB (p++q.1)=true
 | 0,_,_,_,h,_=>by cases h
 | _+1,[],_,_,h,_=>by cases h
 | n + 1,b :: t,q,p,h,hg=>by
   rw [lineF] at h
   split at h
   · rename_i hb
     have hb:b=34:=by simpa using hb
     subst hb
     cases h
     rw [List.append_nil]
     exact (good_split (by decide) hg).1
   · split at h
     · cases h
     · split at h
       · rename_i hb
         have hb:b=92:=by simpa using hb
         subst hb
         have hs:=good_split (by decide) hg
         cases he:escL (92 :: t) with
         | none=>rw [he] at h;cases h
         | some e =>
           rw [he] at h
           simp only at h
           obtain ⟨e1,e2⟩:=esc_good he ⟨t,rfl⟩ (by rw [good_cons _ (by decide)];exact hs.2)
           cases hr:lineF n ((92 :: t).drop e.2) with
           | none=>rw [hr] at h;cases h
           | some r =>
             rw [hr] at h
             have h:=Option.some.inj h
             subst h
             have:=line_good n _ r [] hr e2
             show goodB (p++(e.1++r.1))=true
             rw [good_app hs.1,good_app e1];exact this
       · cases hr:lineF n t with
         | none=>rw [hr] at h;cases h
         | some r =>
           rw [hr] at h
           have h:=Option.some.inj h
           subst h
           have:=line_good n t r (p++[b]) hr (by simpa using hg)
           simpa using this
theorem raw_good:∀ (n:Nat) (l:List UInt8) (q:List UInt8 × Nat) (p:List UInt8),rawF n l=some q→goodB (p++l)=true→goodB (p++q.1)=true
 | 0,_,_,_,h,_=>by cases h
 | _+1,[],_,_,h,_=>by cases h
 | n + 1,b :: t,q,p,h,hg=>by
   rw [rawF] at h
   split at h
   · rename_i hb
     cases h
     unfold pre at hb
     rw [List.isPrefixOf_iff_prefix] at hb
     obtain ⟨z,hz⟩:=hb
     rw [List.append_nil]
     rw [← hz] at hg
     exact (good_split (b:=34) (by decide) hg).1
   · split at h
     · rename_i hb
       unfold pre at hb
       rw [List.isPrefixOf_iff_prefix] at hb
       obtain ⟨z,hz⟩:=hb
       have hz:b :: t=92 :: 34 :: 34 :: 34 :: z:=hz.symm
       rw [hz] at hg h
       have hs:=good_split (b:=92) (by decide) hg
       rw [good_cons _ (by decide),good_cons _ (by decide),good_cons _ (by decide)] at hs
       cases hr:rawF n z with
       | none=>simp only [List.drop_succ_cons,List.drop_zero,hr] at h;cases h
       | some r =>
         simp only [List.drop_succ_cons,List.drop_zero,hr] at h
         have h:=Option.some.inj h
         subst h
         have:=raw_good n z r [] hr hs.2
         show goodB (p++([34,34,34]++r.1))=true
         rw [good_app hs.1, good_asc_app _ (by intro x hx;have:x=34:=by simpa using hx
                                               subst this;decide)];exact this
     · cases hr:rawF n t with
       | none=>rw [hr] at h;cases h
       | some r =>
         rw [hr] at h
         have h:=Option.some.inj h
         subst h
         have:=raw_good n t r (p++[b]) hr (by simpa using hg)
         simpa using this
theorem first_rest (l:List UInt8):l=Blk.firstL l++l.dropWhile fun c=>!Blk.eolB c:=(List.takeWhile_append_dropWhile).symm
theorem eol_asc {c:UInt8} (h:Blk.eolB c=true):c.toNat < 128:=by
 have:∀ b:UInt8,Blk.eolB b=true→b.toNat < 128:=byte_all (by decide +kernel)
 exact this c h
theorem drop_head {p:UInt8→Bool} : ∀ {l:List UInt8} {c:UInt8} {t:List UInt8},l.dropWhile p=c :: t→p c=false
 | [],_,_,h=>by cases h
 | d :: l,c,t,h=>by
   rw [List.dropWhile_cons] at h
   split at h
   · exact drop_head h
   · rename_i hd
     cases h;simpa using hd
theorem lines_good:∀ (n:Nat) (l:List UInt8),l.length < n→goodB l=true→∀ x ∈ Blk.linesL l,goodB x=true:=by
 intro n
 induction n with
 | zero=>intro l h;omega
 | succ n ih =>
   intro l hn hg x hx
   rw [Blk.linesL_eq] at hx
   have hfr:=first_rest l
   have key:goodB (Blk.firstL l)=true∧∀ t,Blk.afterL l=some t→goodB t=true:=by
     cases hd:l.dropWhile fun c=>!Blk.eolB c with
     | nil =>
       rw [hd,List.append_nil] at hfr
       refine ⟨by rw [← hfr];exact hg,fun t ht=>?_⟩
       unfold Blk.afterL at ht
       rw [hd] at ht;cases ht
     | cons c r =>
       rw [hd] at hfr
       have hc:Blk.eolB c=true:=by have:=drop_head hd;simpa using this
       rw [hfr] at hg
       have hs:=good_split (eol_asc hc) hg
       refine ⟨hs.1,fun t ht=>?_⟩
       unfold Blk.afterL at ht
       rw [hd] at ht
       simp only at ht
       split at ht
       · cases r with
         | nil=>cases ht;exact hs.2
         | cons d r =>
           simp only at ht
           split at ht
           · rename_i hd10
             cases ht
             have:=hs.2
             rw [hd10,good_cons _ (by decide)] at this;exact this
           · cases ht;exact hs.2
       · cases ht;exact hs.2
   rcases List.mem_cons.1 hx with e|e
   · rw [e];exact key.1
   · cases ha:Blk.afterL l with
     | none=>rw [ha] at e;cases e
     | some t =>
       rw [ha] at e
       exact ih t (by have:=Blk.afterL_len ha;omega) (key.2 t ha) x e
theorem blank_asc:∀ b:UInt8,Blk.blankB b=true→b.toNat < 128:=byte_all (by decide +kernel)
theorem drop_blank {x:List UInt8} {n:Nat} (h:∀ c ∈ x.take n,Blk.blankB c=true) (hg:goodB x=true):goodB (x.drop n)=true:=by
 have:=good_asc_app (x.drop n) (fun c hc=>blank_asc c (h c hc))
 rw [List.take_append_drop] at this
 rw [← this];exact hg
theorem step_le (v:Int) (x:List UInt8) (hv:0≤v):Blk.stepI v x≤v:=by
 unfold Blk.stepI;split<;>omega
theorem step_nonneg (v:Int) (x:List UInt8) (hv:0≤v):0≤Blk.stepI v x:=by
 unfold Blk.stepI;split<;>omega
theorem fold_le:∀ (ls:List (List UInt8)) (v:Int),0≤v→ls.foldl Blk.stepI v≤v∧0≤ls.foldl Blk.stepI v
 | [],v,h=>⟨Int.le_refl _,h⟩
 | x :: ls,v,h=>by
   rw [List.foldl_cons]
   have h1:=fold_le ls _ (step_nonneg v x h)
   exact ⟨Int.le_trans h1.1 (step_le v x h),h1.2⟩
theorem fold_lead:∀ (ls:List (List UInt8)) (v:Int) (x:List UInt8),x ∈ ls→Blk.inkB x=true→ls.foldl Blk.stepI v≤(Blk.leadN x:Int)
 | [],_,_,h,_=>by cases h
 | y :: ls,v,x,h,hi=>by
   rw [List.foldl_cons]
   rcases List.mem_cons.1 h with e|e
   · subst e
     have hs:Blk.stepI v x≤(Blk.leadN x:Int)∧0≤Blk.stepI v x:=by
      unfold Blk.stepI
      by_cases hc:v < 0∨(Blk.leadN x:Int) < v
      · rw [if_pos ⟨hi,hc⟩];omega
      · rw [if_neg (fun e=>hc e.2)];omega
     exact Int.le_trans (fold_le ls _ hs.2).1 hs.1
   · exact fold_lead ls _ x e hi
theorem lead_take:∀ (x:List UInt8) (n:Nat),n≤Blk.leadN x→∀ c ∈ x.take n,Blk.blankB c=true
 | [],_,_,c,hc=>by simp at hc
 | b :: t,0,_,c,hc=>by simp at hc
 | b :: t,n+1,h,c,hc=>by
   unfold Blk.leadN at h
   rw [List.takeWhile_cons] at h
   split at h
   · rename_i hb
     rw [List.take_succ_cons] at hc
     rcases List.mem_cons.1 hc with e|e
     · rw [e];exact hb
     · exact lead_take t n (by unfold Blk.leadN;simpa using h) c e
   · simp at h
theorem ink_no {x:List UInt8} (h:Blk.inkB x=false):∀ c ∈ x,Blk.blankB c=true:=by
 intro c hc
 unfold Blk.inkB at h
 rw [List.any_eq_false] at h
 have:=h c hc
 simpa using this
theorem join_good:∀ ls:List (List UInt8),(∀ x ∈ ls,goodB x=true)→goodB (Blk.joinTen ls)=true
 | [],_=>rfl
 | [x],h=>h x (by simp)
 | x :: y :: t,h=>by
   show goodB (x++10 :: Blk.joinTen (y :: t))=true
   rw [good_app (h x (by simp)),good_cons _ (by decide)]
   exact join_good (y :: t) fun z hz=>h z (by simp [hz])
theorem value_good {raw:List UInt8} (hg:goodB raw=true):goodB (Blk.valueL raw)=true:=by
 have hl:=lines_good _ raw (Nat.lt_succ_self _) hg
 refine join_good _ fun x hx=>?_
 have hx:x ∈ Blk.cutL (max (Blk.indentL (Blk.linesL raw)) 0).toNat (Blk.linesL raw):=(Blk.trim_infix _).subset hx
 cases hls:Blk.linesL raw with
 | nil=>rw [hls] at hx;cases hx
 | cons y t =>
   rw [hls] at hx hl
   rcases List.mem_cons.1 hx with e|e
   · rw [e];exact hl y (by simp)
   · obtain ⟨z,hz,rfl⟩:=List.mem_map.1 e
     refine drop_blank ?_ (hl z (by simp [hz]))
     cases hi:Blk.inkB z with
     | false=>exact fun c hc=>ink_no hi c (List.mem_of_mem_take hc)
     | true =>
       refine lead_take z _ ?_
       have:Blk.indentL (y :: t)≤(Blk.leadN z:Int):=fold_lead t (-1) z hz hi
       omega
theorem quote_cases {l:List UInt8} {q:List UInt8 × Nat} (h:quoteL l=some q):(∃ z r,l=34 :: 34 :: 34 :: z∧rawL z=some r∧q=(Blk.valueL r.1,3+r.2))∨(∃ t r,l=34 :: t∧lineL t=some r∧q=(r.1,1+r.2)):=by
 cases l with
 | nil=>cases h
 | cons b t =>
   have e:quoteL (b :: t)=if pre [34,34,34] (b :: t) then (rawL ((b :: t).drop 3)).map fun q=>(Blk.valueL q.1,3+q.2) else if b == 34 then (lineL t).map fun q=>(q.1,1+q.2) else none:=rfl
   rw [e] at h
   by_cases hb:pre [34,34,34] (b :: t)=true
   · rw [if_pos hb] at h
     unfold pre at hb
     rw [List.isPrefixOf_iff_prefix] at hb
     obtain ⟨z,hz⟩:=hb
     have hz:b :: t=34 :: 34 :: 34 :: z:=hz.symm
     rw [hz] at h
     cases hr:rawL z with
     | none=>simp only [List.drop_succ_cons,List.drop_zero,hr] at h;cases h
     | some r =>
       simp only [List.drop_succ_cons,List.drop_zero,hr] at h
       exact .inl ⟨z,r,hz,hr,(Option.some.inj h).symm⟩
   · rw [if_neg hb] at h
     by_cases hc:(b == 34)=true
     · rw [if_pos hc] at h
       have hc:b=34:=by simpa using hc
       subst hc
       cases hr:lineL t with
       | none=>rw [hr] at h;cases h
       | some r =>
         rw [hr] at h
         exact .inr ⟨t,r,rfl,hr,(Option.some.inj h).symm⟩
     · rw [if_neg hc] at h;cases h
theorem quote_good {l:List UInt8} {q:List UInt8 × Nat} (h:quoteL l=some q) (hg:goodB l=true):goodB q.1=true:=by
 rcases quote_cases h with ⟨z,r,rfl,hr,rfl⟩|⟨t,r,rfl,hr,rfl⟩
 · rw [good_cons _ (by decide),good_cons _ (by decide),good_cons _ (by decide)] at hg
   exact value_good (raw_good _ z r [] hr hg)
 · rw [good_cons _ (by decide)] at hg
   exact line_good _ t r [] hr hg
theorem line_len:∀ (n:Nat) (l:List UInt8) (q:List UInt8 × Nat),lineF n l=some q→q.1.length≤q.2
 | 0,_,_,h=>by cases h
 | _+1,[],_,h=>by cases h
 | n + 1,b :: t,q,h=>by
   rw [lineF] at h
   split at h
   · cases h;simp
   · split at h
     · cases h
     · split at h
       · cases he:escL (b :: t) with
         | none=>rw [he] at h;cases h
         | some e =>
           rw [he] at h
           simp only at h
           have h1:=escL_size he
           cases hr:lineF n ((b :: t).drop e.2) with
           | none=>rw [hr] at h;cases h
           | some r =>
             rw [hr] at h
             have h:=Option.some.inj h
             subst h
             have:=line_len n _ r hr
             simp;omega
       · cases hr:lineF n t with
         | none=>rw [hr] at h;cases h
         | some r =>
           rw [hr] at h
           have h:=Option.some.inj h
           subst h
           have:=line_len n _ r hr
           simp;omega
theorem quote_len {l:List UInt8} {q:List UInt8 × Nat} (h:quoteL l=some q):q.1.length≤l.length:=by
 have hle:=(quoteL_le h).2
 rcases quote_cases h with ⟨z,r,rfl,hr,rfl⟩|⟨t,r,rfl,hr,rfl⟩
 · have h1:=rawF_le _ _ r hr
   have h2:=Blk.value_len r.1
   simp only at hle ⊢
   omega
 · have h1:=line_len _ _ r hr
   simp only at hle ⊢
   omega
theorem line_behind:∀ (n:Nat) (l:List UInt8) (q:List UInt8 × Nat) (p:List UInt8),lineF n l=some q→goodB (p++l)=true→goodB (l.drop q.2)=true
 | 0,_,_,_,h,_=>by cases h
 | _+1,[],_,_,h,_=>by cases h
 | n + 1,b :: t,q,p,h,hg=>by
   rw [lineF] at h
   split at h
   · rename_i hb
     have hb:b=34:=by simpa using hb
     subst hb
     cases h
     exact (good_split (by decide) hg).2
   · split at h
     · cases h
     · split at h
       · rename_i hb
         have hb:b=92:=by simpa using hb
         subst hb
         have hs:=good_split (by decide) hg
         cases he:escL (92 :: t) with
         | none=>rw [he] at h;cases h
         | some e =>
           rw [he] at h
           simp only at h
           obtain ⟨_,e2⟩:=esc_good he ⟨t,rfl⟩ (by rw [good_cons _ (by decide)];exact hs.2)
           cases hr:lineF n ((92 :: t).drop e.2) with
           | none=>rw [hr] at h;cases h
           | some r =>
             rw [hr] at h
             have h:=Option.some.inj h
             subst h
             have:=line_behind n _ r [] hr e2
             rwa [List.drop_drop] at this
       · cases hr:lineF n t with
         | none=>rw [hr] at h;cases h
         | some r =>
           rw [hr] at h
           have h:=Option.some.inj h
           subst h
           have:=line_behind n t r (p++[b]) hr (by simpa using hg)
           show goodB ((b :: t).drop (1+r.2))=true
           rw [show 1+r.2=r.2+1 by omega,List.drop_succ_cons];exact this
theorem raw_behind:∀ (n:Nat) (l:List UInt8) (q:List UInt8 × Nat) (p:List UInt8),rawF n l=some q→goodB (p++l)=true→goodB (l.drop q.2)=true
 | 0,_,_,_,h,_=>by cases h
 | _+1,[],_,_,h,_=>by cases h
 | n + 1,b :: t,q,p,h,hg=>by
   rw [rawF] at h
   split at h
   · rename_i hb
     cases h
     unfold pre at hb
     rw [List.isPrefixOf_iff_prefix] at hb
     obtain ⟨z,hz⟩:=hb
     have hz:b :: t=34 :: 34 :: 34 :: z:=hz.symm
     rw [hz] at hg ⊢
     have hs:=(good_split (b:=34) (by decide) hg).2
     rw [good_cons _ (by decide),good_cons _ (by decide)] at hs
     exact hs
   · split at h
     · rename_i hb
       unfold pre at hb
       rw [List.isPrefixOf_iff_prefix] at hb
       obtain ⟨z,hz⟩:=hb
       have hz:b :: t=92 :: 34 :: 34 :: 34 :: z:=hz.symm
       rw [hz] at hg h ⊢
       have hs:=good_split (b:=92) (by decide) hg
       rw [good_cons _ (by decide),good_cons _ (by decide),good_cons _ (by decide)] at hs
       cases hr:rawF n z with
       | none=>simp only [List.drop_succ_cons,List.drop_zero,hr] at h;cases h
       | some r =>
         simp only [List.drop_succ_cons,List.drop_zero,hr] at h
         have h:=Option.some.inj h
         subst h
         have:=raw_behind n z r [] hr hs.2
         show goodB ((92 :: 34 :: 34 :: 34 :: z).drop (4+r.2))=true
         rw [show 4+r.2=r.2+4 by omega];exact this
     · cases hr:rawF n t with
       | none=>rw [hr] at h;cases h
       | some r =>
         rw [hr] at h
         have h:=Option.some.inj h
         subst h
         have:=raw_behind n t r (p++[b]) hr (by simpa using hg)
         show goodB ((b :: t).drop (1+r.2))=true
         rw [show 1+r.2=r.2+1 by omega,List.drop_succ_cons];exact this
theorem quote_behind {l:List UInt8} {q:List UInt8 × Nat} (h:quoteL l=some q) (hg:goodB l=true):goodB (l.drop q.2)=true:=by
 rcases quote_cases h with ⟨z,r,rfl,hr,rfl⟩|⟨t,r,rfl,hr,rfl⟩
 · rw [good_cons _ (by decide),good_cons _ (by decide),good_cons _ (by decide)] at hg
   have:=raw_behind _ z r [] hr hg
   show goodB ((34 :: 34 :: 34 :: z).drop (3+r.2))=true
   rw [show 3+r.2=r.2+3 by omega];exact this
 · rw [good_cons _ (by decide)] at hg
   have:=line_behind _ t r [] hr hg
   show goodB ((34 :: t).drop (1+r.2))=true
   rw [show 1+r.2=r.2+1 by omega];exact this
theorem tok_good {l:List UInt8} {t:(Int × List UInt8) × Nat} (h:tokL l=some t) (hg:goodB l=true):rightB t.1=true∧t.1.2.length≤l.length∧goodB (l.drop t.2)=true:=by
 unfold tokL at h
 split at h
 · rename_i hm
   have h:=Option.some.inj h
   subst h
   cases l with
   | nil=>exact absurd rfl hm
   | cons b r =>
     simp only [markN] at hm ⊢
     split at hm
     · rename_i hb
       rw [if_pos hb]
       unfold pre at hb
       rw [List.isPrefixOf_iff_prefix] at hb
       obtain ⟨z,hz⟩:=hb
       have hz:b :: r=46 :: 46 :: 46 :: z:=hz.symm
       rw [hz] at hg ⊢
       rw [good_cons _ (by decide),good_cons _ (by decide),good_cons _ (by decide)] at hg
       exact ⟨by simp [rightB,markN,pre,List.isPrefixOf],by simp,hg⟩
     · rename_i hb
       rw [if_neg hb] at ⊢
       split at hm
       · rename_i hi
         rw [if_pos hi]
         have ha:b.toNat < 128:=by
           have:∀ b:UInt8,isMark b=true→b.toNat < 128:=byte_all (by decide +kernel)
           exact this b hi
         rw [good_cons _ ha] at hg
         refine ⟨?_,by simp,hg⟩
         have hp:pre [46,46,46] [b]=false:=by simp [pre,List.isPrefixOf]
         simp [rightB,markN,hp,hi]
       · exact absurd rfl hm
 · split at h
   · rename_i hw
     have h:=Option.some.inj h
     subst h
     have hn:=word_name hw
     refine ⟨hn,by simp only [List.length_take];omega,?_⟩
     have:=good_asc_app (l.drop (wordN l)) (a:=l.take (wordN l)) (fun x hx=>by
       have hx:=List.all_eq_true.1 (name_ascii hn) x hx
       unfold ascB at hx
       rw [Bool.and_eq_true] at hx
       simpa using hx.2)
     rw [List.take_append_drop] at this
     rw [← this];exact hg
   · split at h
     · rename_i hnu
       have h:=Option.some.inj h
       subst h
       obtain ⟨h1,h2⟩:=number_take hnu
       have hk:kindL (l.take (nbL l).1) ≠ 0:=by rw [h1];omega
       refine ⟨?_,by simp only [List.length_take];omega,?_⟩
       · have e1:(nbL l).2 ≠ 1:=by omega
         have e2:(nbL l).2 ≠ 2:=by omega
         simp only [rightB,e1,e2,if_false,h2,if_true,h1,decide_true]
       · have hs:=(numbers_yes hk).2.1
         have:=good_app (good_of_source hs) (l.drop (nbL l).1)
         rw [List.take_append_drop] at this
         rw [← this];exact hg
     · cases hq:quoteL l with
       | none=>rw [hq] at h;cases h
       | some q =>
         rw [hq] at h
         have h:=Option.some.inj h
         subst h
         refine ⟨?_,quote_len hq,?_⟩
         · show rightB (5,q.1)=true
           exact quote_good hq hg
         · exact quote_behind hq hg
theorem gap_good {l:List UInt8} (h:gapL l ≠ 0) (hg:goodB l=true):goodB (l.drop (gapL l))=true:=by
 cases l with
 | nil=>exact hg
 | cons b t =>
   by_cases h1:isGap b=true
   · have ha:b.toNat < 128:=by
       have:∀ b:UInt8,isGap b=true→b.toNat < 128:=byte_all (by decide +kernel)
       exact this b h1
     rw [show gapL (b :: t)=1 by simp [gapL,h1]]
     rw [good_cons _ ha] at hg;exact hg
   · by_cases h2:(b == 35)=true
     · have hb:b=35:=by simpa using h2
       subst hb
       rw [show gapL (35 :: t)=1+(t.takeWhile noEol).length by simp [gapL,isGap]]
       rw [good_cons _ (by decide)] at hg
       rw [show 1+(t.takeWhile noEol).length=(t.takeWhile noEol).length+1 by omega,List.drop_succ_cons]
       have e:t=t.takeWhile noEol++t.dropWhile noEol:=(List.takeWhile_append_dropWhile).symm
       have e2:t.drop (t.takeWhile noEol).length=t.dropWhile noEol:=by
         have:∀ a b:List UInt8,(a++b).drop a.length=b:=fun a b=>List.drop_left
         have h7:=this (t.takeWhile noEol) (t.dropWhile noEol)
         rwa [← e] at h7
       rw [e2]
       cases hd:t.dropWhile noEol with
       | nil=>rfl
       | cons c r =>
         have hc:=drop_head hd
         have ha:c.toNat < 128:=by
           have:∀ b:UInt8,noEol b=false→b.toNat < 128:=byte_all (by decide +kernel)
           exact this c hc
         rw [e,hd] at hg
         rw [good_cons _ ha];exact (good_split ha hg).2
     · have h3:pre [239,187,191] (b :: t)=true:=by
         by_cases h3:pre [239,187,191] (b :: t)=true
         · exact h3
         · exact absurd (by simp [gapL,h1,h2,h3]) h
       rw [show gapL (b :: t)=3 by simp [gapL,h1,h2,h3]]
       unfold pre at h3
       rw [List.isPrefixOf_iff_prefix] at h3
       obtain ⟨z,hz⟩:=h3
       rw [← hz] at hg ⊢
       have e:goodB ([239,187,191]++z)=goodB z:=good_app (by decide +kernel) z
       rw [e] at hg;exact hg
theorem readF_good:∀ (n:Nat) (l:List UInt8) ts,readF n l=some ts→goodB l=true→ts.all rightB=true∧∀ t ∈ ts,t.2.length≤l.length
 | 0,_,_,h,_=>by cases h
 | n + 1,l,ts,h,hg=>by
   rw [readF] at h
   split at h
   · rename_i h0
     obtain ⟨h1,h2⟩:=readF_good n _ ts h (gap_good h0 hg)
     exact ⟨h1,fun t ht=>Nat.le_trans (h2 t ht) (by rw [List.length_drop];omega)⟩
   · split at h
     · cases h
       exact ⟨rfl,fun t ht=>by cases ht⟩
     · cases hk:tokL l with
       | none=>rw [hk] at h;cases h
       | some p =>
         rw [hk] at h
         obtain ⟨g1,g2,g3⟩:=tok_good hk hg
         cases hr:readF n (l.drop p.2) with
         | none=>simp only [hr] at h;cases h
         | some us =>
           simp only [hr] at h
           have h:=Option.some.inj h
           subst h
           obtain ⟨h1,h2⟩:=readF_good n _ us hr g3
           refine ⟨by rw [List.all_cons,g1,h1];rfl,fun t ht=>?_⟩
           rcases List.mem_cons.1 ht with e|e
           · rw [e];exact g2
           · exact Nat.le_trans (h2 t e) (by rw [List.length_drop];omega)
theorem readS_right (l:List UInt8):(readS l).1.all rightB=true∧∀ t ∈ (readS l).1,t.2.length≤l.length:=by
 unfold readS
 split
 · exact ⟨rfl,fun t ht=>by cases ht⟩
 · split
   · exact ⟨rfl,fun t ht=>by cases ht⟩
   · rename_i h0 h1
     have hs:sourceB l=true:=by cases h:sourceB l with
      | true=>rfl
      | false=>exact absurd h h1
     cases h:readL l with
     | none=>exact ⟨rfl,fun t ht=>by cases ht⟩
     | some ts=>exact readF_good _ l ts h (good_of_source hs)
theorem readS_goodD {s:ByteArray} (hs:s.size≤9000):GoodD (tokB (readS s.data.toList).1):=by
 obtain ⟨h1,h2⟩:=readS_right s.data.toList
 have h3:s.data.toList.length=s.size:=Array.length_toList
 refine ⟨fun t ht=>?_,readS_names hs⟩
 unfold tokB at ht
 obtain ⟨u,hu,rfl⟩:=List.mem_map.1 ht
 have hl:=h2 u hu
 have hr:=List.all_eq_true.1 h1 u hu
 refine ⟨by show (⟨u.2.toArray⟩:ByteArray).size≤9000;rw [Lib.size_eq];show u.2.length≤9000;omega,fun hk=>?_⟩
 have hk:u.1=3:=hk
 show kindL u.2.toArray.toList=3
 rw [List.toList_toArray]
 unfold rightB at hr
 rw [hk] at hr
 simpa using hr
end Go.Proofs.YtkacnnhdfkpenaaGreatDoor
