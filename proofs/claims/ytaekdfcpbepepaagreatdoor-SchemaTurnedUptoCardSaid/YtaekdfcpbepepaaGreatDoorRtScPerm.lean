/- A schema's definitions in another order: what is found is the same. -/
import Derived.Test.YtaekdfcpbepepaaGreatDoorQt45
namespace Go.Proofs.YtaekdfcpbepepaaGreatDoor
open Go.RowKit
section
variable {D D':List DefnT}
theorem names_perm (hp:D.Perm D') (hn:(D.map fun x=>x.name).Nodup):(D'.map fun x=>x.name).Nodup:=(hp.map _).nodup_iff.1 hn
theorem findL_perm (hp:D.Perm D') (hn:(D.map fun x=>x.name).Nodup) (n:ByteArray):findL D' n=findL D n:=by
 have hn':=names_perm hp hn
 cases e:(findL D n).2 with
 | true =>
   obtain ⟨h1,h2⟩:=findL_is e
   have a:=findL_self hn h1
   have b:=findL_self hn' (hp.mem_iff.1 h1)
   rw [h2] at a b
   rw [a,b]
 | false =>
   cases e':(findL D' n).2 with
   | true =>
     obtain ⟨h1,h2⟩:=findL_is e'
     have a:=findL_self hn (hp.mem_iff.2 h1)
     rw [h2] at a
     rw [a] at e
     cases e
   | false=>exact Prod.ext ((findL_not e').trans (findL_not e).symm) (e'.trans e.symm)
theorem findD_perm (hp:D.Perm D') (hn:(D.map fun x=>x.name).Nodup) (n:ByteArray):findD D' n=findD D n:=by
 unfold findD
 split
 · rfl
 · exact findL_perm hp hn n
theorem isD_perm (hp:D.Perm D') (hn:(D.map fun x=>x.name).Nodup) (n:ByteArray) (ks:List Int):isD D' n ks=isD D n ks:=by
 unfold isD
 rw [findD_perm hp hn]
theorem all_perm {α:Type} {p:α→Bool} {l l':List α} (h:∀ x,x ∈ l'→x ∈ l) (hl:l.all p=true):l'.all p=true:=
 List.all_eq_true.2 fun x hx=>List.all_eq_true.1 hl x (h x hx)
theorem allF_perm (hp:D.Perm D') {f:FieldT} (h:f ∈ allF D'):f ∈ allF D:=by
 obtain ⟨d,hd,hf⟩:=List.mem_flatMap.1 h
 exact List.mem_flatMap.2 ⟨d,hp.mem_iff.2 hd,hf⟩
theorem allPm_perm (hp:D.Perm D') {p:VarT} (h:p ∈ allPm D'):p ∈ allPm D:=by
 rcases List.mem_append.1 h with h|h
 · obtain ⟨f,hf,hpf⟩:=List.mem_flatMap.1 h
   exact List.mem_append_left _ (List.mem_flatMap.2 ⟨f,allF_perm hp hf,hpf⟩)
 · obtain ⟨d,hd,hpd⟩:=List.mem_flatMap.1 h
   exact List.mem_append_right _ (List.mem_flatMap.2 ⟨d,hp.mem_iff.2 hd,hpd⟩)
theorem rule3_perm {S S':SchT} (hp:S.defs.Perm S'.defs) (h:rule3B S=true):rule3B S'=true:=by
 unfold rule3B at h ⊢
 rw [Bool.and_eq_true,Bool.and_eq_true] at h ⊢
 exact ⟨⟨all_perm (fun x hx=>hp.mem_iff.2 hx) h.1.1,all_perm (fun x hx=>allF_perm hp hx) h.1.2⟩,all_perm (fun x hx=>allPm_perm hp hx) h.2⟩
theorem rule4_perm {S S':SchT} (hp:S.defs.Perm S'.defs) (hn:(S.defs.map fun x=>x.name).Nodup) (h:rule4B S=true):rule4B S'=true:=by
 have e1:fit4F S'.defs=fit4F S.defs:=funext fun f=>by unfold fit4F leafD compD;rw [isD_perm hp hn,isD_perm hp hn]
 have e2:fit4P S'.defs=fit4P S.defs:=funext fun p=>by unfold fit4P entryD;rw [isD_perm hp hn]
 unfold rule4B at h ⊢
 rw [e1,e2]
 rw [Bool.and_eq_true] at h ⊢
 exact ⟨all_perm (fun x hx=>allF_perm hp hx) h.1,all_perm (fun x hx=>allPm_perm hp hx) h.2⟩
theorem rule5_perm {S S':SchT} (hp:S.defs.Perm S'.defs) (hn:(S.defs.map fun x=>x.name).Nodup) (h:rule5B S=true):rule5B S'=true:=by
 have e:un5B S'.defs=un5B S.defs:=funext fun d=>by
  unfold un5B
  have:face5B S'.defs=face5B S.defs:=funext fun K=>funext fun nm=>funext fun s=>by unfold face5B;rw [findD_perm hp hn]
  rw [this]
 unfold rule5B at h ⊢
 rw [e]
 exact all_perm (fun x hx=>hp.mem_iff.2 hx) h
theorem adds_len_of:∀ (l out:List ByteArray),l.Nodup→(∀ x,x ∈ l→x ∉ out)→(l.foldl addN out).length=out.length+l.length
 | [],out,_,_=>rfl
 | s :: t,out,hn,h=>by
   rw [List.nodup_cons] at hn
   have hs : ¬ hasN out s=true:=fun e=>h s (List.mem_cons_self ..) (hasN_iff.1 e)
   have e:addN out s=out++[s]:=by unfold addN;rw [if_neg hs]
   rw [List.foldl_cons,e,adds_len_of t (out++[s]) hn.2 (fun x hx ho=>by
    rcases List.mem_append.1 ho with ho|ho
    · exact h x (List.mem_cons_of_mem _ hx) ho
    · rw [List.mem_singleton] at ho
      subst ho
      exact hn.1 hx),List.length_append,List.length_cons,List.length_cons,List.length_nil]
   omega
theorem nodup_diff {xs:List ByteArray} (h:xs.Nodup):diffB xs=true:=by
 have e:=adds_len_of xs [] h (fun x _ hx=>by cases hx)
 unfold diffB onceL
 rw [e]
 simp
theorem rule1_perm {S S':SchT} (hq:S'.query=S.query) (hm:S'.mutation=S.mutation) (hp:S.defs.Perm S'.defs) (h:rule1B S=true):rule1B S'=true:=by
 have hn:=sound_names h
 unfold rule1B at h ⊢
 rw [Bool.and_eq_true,Bool.and_eq_true] at h ⊢
 refine ⟨all_perm (fun x hx=>hp.mem_iff.2 hx) h.1,?_,nodup_diff (names_perm hp hn)⟩
 have h2:=h.2.1
 unfold schB at h2 ⊢
 rw [hq,hm]
 rw [Bool.and_eq_true,Bool.and_eq_true] at h2 ⊢
 exact ⟨h2.1,h2.2.1,all_perm (fun x hx=>hp.mem_iff.2 hx) h2.2.2⟩
theorem isaB_perm (hp:D.Perm D') (hn:(D.map fun x=>x.name).Nodup):isaB D'=isaB D:=funext fun n=>funext fun k=>by unfold isaB;rw [findD_perm hp hn]
theorem rule2_perm {S S':SchT} (hq:S'.query=S.query) (hm:S'.mutation=S.mutation) (hp:S.defs.Perm S'.defs) (hn:(S.defs.map fun x=>x.name).Nodup) (h:rule2B S=true):rule2B S'=true:=by
 unfold rule2B at h ⊢
 rw [hq,hm,isaB_perm hp hn]
 exact h
theorem rule7_perm {S S':SchT} (hp:S.defs.Perm S'.defs) (hn:(S.defs.map fun x=>x.name).Nodup) (h:rule7B S=true):rule7B S'=true:=by
 have e:un7B S'.defs=un7B S.defs:=funext fun d=>by unfold un7B;rw [isaB_perm hp hn]
 unfold rule7B at h ⊢
 rw [e]
 exact all_perm (fun x hx=>hp.mem_iff.2 hx) h
theorem within_perm (hp:D.Perm D') (hn:(D.map fun x=>x.name).Nodup):withinL D'=withinL D:=funext fun p=>by
 unfold withinL
 rw [findD_perm hp hn]
theorem places_perm (hp:D.Perm D') (hn:(D.map fun x=>x.name).Nodup):∀ (f:Nat) (p:PlT),placesF D' f p=placesF D f p
 | 0,p=>rfl
 | f+1,p=>by
   rw [placesF,placesF,within_perm hp hn]
   have:placesF D' f=placesF D f:=funext fun x=>places_perm hp hn f x
   rw [this]
theorem fitsB_perm (hp:D.Perm D') (hn:(D.map fun x=>x.name).Nodup) (n:ByteArray) (l m:Int) (v:VT):fitsB D' n l m v=fitsB D n l m v:=by
 unfold fitsB namedB
 rw [findD_perm hp hn]
theorem rightL_perm (hp:D.Perm D') (hn:(D.map fun x=>x.name).Nodup) (p:PlT):rightL D' p=rightL D p:=by
 unfold rightL allP
 rw [places_perm hp hn]
 have:(fun x:PlT=>fitsB D' x.tn x.tl x.tm x.v)=fun x=>fitsB D x.tn x.tl x.tm x.v:=funext fun x=>fitsB_perm hp hn _ _ _ _
 rw [this]
theorem rule9_perm {S S':SchT} (hp:S.defs.Perm S'.defs) (hn:(S.defs.map fun x=>x.name).Nodup) (h:rule9B S=true):rule9B S'=true:=by
 have e1:rt9P S'.defs=rt9P S.defs:=funext fun p=>by unfold rt9P;rw [rightL_perm hp hn]
 have e2:lf9D S'.defs=lf9D S.defs:=funext fun d=>by
  unfold lf9D
  have:lf9P S'.defs=lf9P S.defs:=funext fun p=>by unfold lf9P leafD;rw [isD_perm hp hn]
  rw [this]
 unfold rule9B at h ⊢
 rw [e1,e2]
 rw [Bool.and_eq_true] at h ⊢
 exact ⟨all_perm (fun x hx=>allPm_perm hp hx) h.1,all_perm (fun x hx=>hp.mem_iff.2 hx) h.2⟩
theorem bears_mem {l:List DefnT} {f a:ByteArray} : a ∈ bearersL l f ↔ ∃ d,d ∈ l∧bearsB d f=true∧d.name=a:=by
 induction l with
 | nil=>simp [bearersL]
 | cons d t ih =>
   unfold bearersL
   by_cases h:bearsB d f=true
   · rw [if_pos h,List.mem_cons,ih]
     constructor
     · rintro (rfl|⟨e,h1,h2⟩)
       · exact ⟨d,List.mem_cons_self ..,h,rfl⟩
       · exact ⟨e,List.mem_cons_of_mem _ h1,h2⟩
     · rintro ⟨e,h1,h2,h3⟩
       rcases List.mem_cons.1 h1 with rfl|h1
       · exact Or.inl h3.symm
       · exact Or.inr ⟨e,h1,h2,h3⟩
   · rw [if_neg h,ih]
     constructor
     · rintro ⟨e,h1,h2⟩
       exact ⟨e,List.mem_cons_of_mem _ h1,h2⟩
     · rintro ⟨e,h1,h2,h3⟩
       rcases List.mem_cons.1 h1 with rfl|h1
       · exact absurd h2 h
       · exact ⟨e,h1,h2,h3⟩
theorem poss_perm {S S':SchT} (hp:S.defs.Perm S'.defs) (hn:(S.defs.map fun x=>x.name).Nodup) {n a:ByteArray} (h:a ∈ possL S n):a ∈ possL S' n:=by
 unfold possL at h ⊢
 rw [findD_perm hp hn]
 by_cases h1:(findD S.defs n).2=true
 · rw [if_pos h1] at h ⊢
   by_cases k1:((findD S.defs n).1.kind == 1)=true
   · rw [if_pos k1] at h ⊢
     exact h
   · rw [if_neg k1] at h ⊢
     by_cases k2:((findD S.defs n).1.kind == 2)=true
     · rw [if_pos k2] at h ⊢
       obtain ⟨d,d1,d2⟩:=bears_mem.1 (once_mem h)
       exact once_in (bears_mem.2 ⟨d,hp.mem_iff.1 d1,d2⟩)
     · rw [if_neg k2] at h ⊢
       have e:objB S'=objB S:=funext fun x=>by unfold objB;rw [isD_perm hp hn]
       unfold objL at h ⊢
       rw [e]
       exact h
 · rw [if_neg h1] at h
   cases h
theorem nar_perm {S S':SchT} (hp:S.defs.Perm S'.defs) (hn:(S.defs.map fun x=>x.name).Nodup) {a b:ByteArray} (h:narB S a b=true):narB S' a b=true:=by
 unfold narB at h ⊢
 rw [Bool.or_eq_true] at h ⊢
 rcases h with h|h
 · exact Or.inl h
 · refine Or.inr ?_
   rw [isD_perm hp hn,isD_perm hp hn,isD_perm hp hn,findD_perm hp hn]
   by_cases k:isD S.defs a [1]=true
   · rw [if_pos k] at h ⊢
     exact hasN_iff.2 (poss_perm hp hn (hasN_iff.1 h))
   · rw [if_neg k] at h ⊢
     exact h
theorem rule6_perm {S S':SchT} (hp:S.defs.Perm S'.defs) (hn:(S.defs.map fun x=>x.name).Nodup) (h:rule6B S=true):rule6B S'=true:=by
 unfold rule6B at h ⊢
 refine List.all_eq_true.2 fun d hd=>?_
 have h1:=List.all_eq_true.1 h d (hp.mem_iff.2 hd)
 unfold un6B at h1 ⊢
 refine List.all_eq_true.2 fun s hs=>?_
 have h2:=List.all_eq_true.1 h1 s hs
 unfold face6B at h2 ⊢
 rw [findD_perm hp hn]
 refine List.all_eq_true.2 fun g hg=>?_
 have h3:=List.all_eq_true.1 h2 g hg
 unfold fit6F at h3 ⊢
 cases e:lastN (fun x:FieldT=>x.name) d.fields g.name with
 | none=>rw [e] at h3;cases h3
 | some y =>
   rw [e] at h3
   have h3:(dsubB S y.tn y.tl y.tm g.tn g.tl g.tm && standB y.params g.params)=true:=h3
   show (dsubB S' y.tn y.tl y.tm g.tn g.tl g.tm && standB y.params g.params)=true
   unfold dsubB at h3 ⊢
   rw [Bool.and_eq_true,Bool.and_eq_true,Bool.and_eq_true] at h3 ⊢
   exact ⟨⟨h3.1.1,h3.1.2.1,nar_perm hp hn h3.1.2.2⟩,h3.2⟩
theorem need_far:∀ (D:List DefnT) (L:ByteArray→List ByteArray) (a:ByteArray),a ∉ (D.map fun d=>d.name)→D.foldl needS L a=L a
 | [],L,a,_=>rfl
 | d :: t,L,a,h=>by
   rw [List.map_cons,List.mem_cons] at h
   rw [List.foldl_cons,need_far t (needS L d) a (fun x=>h (Or.inr x))]
   unfold needS
   split
   · unfold updR
     rw [if_neg (fun e=>h (Or.inl e))]
   · rfl
theorem need_self:∀ (D:List DefnT) (L:ByteArray→List ByteArray) (d:DefnT),(D.map fun x=>x.name).Nodup→d ∈ D→D.foldl needS L d.name=needS L d d.name
 | [],L,d,_,h=>by cases h
 | c :: t,L,d,hn,h=>by
   rw [List.map_cons,List.nodup_cons] at hn
   rw [List.foldl_cons]
   rcases List.mem_cons.1 h with rfl|h
   · exact need_far t _ _ hn.1
   · rw [need_self t (needS L c) d hn.2 h]
     have hne:d.name ≠ c.name:=fun e=>hn.1 (by rw [← e];exact List.mem_map.2 ⟨d,h,rfl⟩)
     have e:needS L c d.name=L d.name:=by
       unfold needS
       split
       · unfold updR
         rw [if_neg hne]
       · rfl
     unfold needS at e ⊢
     by_cases k:(d.kind == 5)=true
     · rw [if_pos k,if_pos k]
       unfold updR
       simp only [if_true]
     · rw [if_neg k,if_neg k]
       exact e
theorem need_perm (hp:D.Perm D') (hn:(D.map fun x=>x.name).Nodup) (a:ByteArray):needL D' a=needL D a:=by
 unfold needL
 by_cases h:a ∈ (D.map fun d=>d.name)
 · obtain ⟨d,hd,rfl⟩:=List.mem_map.1 h
   rw [need_self D _ d hn hd,need_self D' _ d (names_perm hp hn) (hp.mem_iff.1 hd)]
 · rw [need_far D _ a h,need_far D' _ a (fun h2=>h ((hp.map _).mem_iff.2 h2))]
theorem rule8_perm {S S':SchT} (hp:S.defs.Perm S'.defs) (hn:(S.defs.map fun x=>x.name).Nodup) (h:rule8B S=true):rule8B S'=true:=by
 refine rule8_yes fun d hd=>?_
 have e:needL S'.defs=needL S.defs:=funext (need_perm hp hn)
 rw [e]
 by_cases h2:Acc (fun b a=>b ∈ needL S.defs a) d.name
 · exact h2
 · rw [rule8_no (hp.mem_iff.2 hd) h2] at h
   cases h
theorem check_perm {S S':SchT} (hq:S'.query=S.query) (hm:S'.mutation=S.mutation) (hp:S.defs.Perm S'.defs) (h:checkS S=0):checkS S'=0:=by
 obtain ⟨r1,r2,r3,r4,r5,r6,r7,r8,r9⟩:=check_zero h
 have hn:=sound_names r1
 refine check_full fun k h1 h2=>?_
 have h:k=1∨k=2∨k=3∨k=4∨k=5∨k=6∨k=7∨k=8∨k=9:=by omega
 rcases h with rfl|rfl|rfl|rfl|rfl|rfl|rfl|rfl|rfl
 · exact rule1_perm hq hm hp r1
 · exact rule2_perm hq hm hp hn r2
 · exact rule3_perm hp r3
 · exact rule4_perm hp hn r4
 · exact rule5_perm hp hn r5
 · exact rule6_perm hp hn r6
 · exact rule7_perm hp hn r7
 · exact rule8_perm hp hn r8
 · exact rule9_perm hp hn r9
end
end Go.Proofs.YtaekdfcpbepepaaGreatDoor
