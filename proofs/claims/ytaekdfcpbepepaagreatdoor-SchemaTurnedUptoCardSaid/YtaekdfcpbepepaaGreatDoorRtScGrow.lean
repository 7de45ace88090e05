/- A sound schema with an enum more: sound just if its name and values may be and its name is not there. -/
import Derived.Test.YtaekdfcpbepepaaGreatDoorRtScPerm
namespace Go.Proofs.YtaekdfcpbepepaaGreatDoor
open Go.RowKit
def enumD (n:ByteArray) (l:List ByteArray):DefnT:=⟨4,n,[],[],l,[]⟩
def growS (S:SchT) (n:ByteArray) (l:List ByteArray):SchT:=⟨S.defs++[enumD n l],S.query,S.mutation⟩
section
variable {D:List DefnT} {n:ByteArray} {l:List ByteArray}
theorem gfindL_app {x:ByteArray} (h:(findL D x).2=true):findL (D++[enumD n l]) x=findL D x:=by
 induction D with
 | nil=>cases h
 | cons a t ih =>
   rw [List.cons_append]
   unfold findL at h ⊢
   by_cases e:(a.name.toList == x.toList)=true
   · rw [if_pos e,if_pos e]
   · rw [if_neg e] at h
     rw [if_neg e,if_neg e]
     exact ih h
theorem gfindL_no {x:ByteArray} (h:(findL D x).2=false):findL (D++[enumD n l]) x=if (n.toList == x.toList)=true then (enumD n l,true) else (zeroD,false):=by
 induction D with
 | nil=>rfl
 | cons a t ih =>
   rw [List.cons_append]
   unfold findL at h ⊢
   by_cases e:(a.name.toList == x.toList)=true
   · rw [if_pos e] at h
     cases h
   · rw [if_neg e] at h
     rw [if_neg e]
     exact ih h
theorem gfind_app {x:ByteArray} (h:(findD D x).2=true):findD (D++[enumD n l]) x=findD D x:=by
 unfold findD at h ⊢
 by_cases e:scalarB x=true
 · rw [if_pos e,if_pos e]
 · rw [if_neg e] at h
   rw [if_neg e,if_neg e]
   exact gfindL_app h
theorem gfind_no {x:ByteArray} (h:(findD D x).2=false):findD D x=(zeroD,false)∧(findD (D++[enumD n l]) x=(enumD n l,true)∨findD (D++[enumD n l]) x=(zeroD,false)):=by
 unfold findD at h ⊢
 by_cases e:scalarB x=true
 · rw [if_pos e] at h
   cases h
 · rw [if_neg e] at h
   rw [if_neg e,if_neg e]
   refine ⟨Prod.ext (findL_not h) h,?_⟩
   rw [gfindL_no h]
   by_cases k:(n.toList == x.toList)=true
   · rw [if_pos k];exact Or.inl rfl
   · rw [if_neg k];exact Or.inr rfl
theorem gis_same (x:ByteArray) {ks:List Int} (h:hasI ks 4=false):isD (D++[enumD n l]) x ks=isD D x ks:=by
 unfold isD
 cases e:(findD D x).2 with
 | true=>rw [gfind_app e,e]
 | false =>
   obtain ⟨_,h2⟩:=gfind_no (n:=n) (l:=l) e
   rcases h2 with h2|h2
   · rw [h2]
     show (true && hasI ks 4)=_
     rw [h]
     rfl
   · rw [h2]
     rfl
theorem gis_mono {x:ByteArray} {ks:List Int} (h:isD D x ks=true):isD (D++[enumD n l]) x ks=true:=by
 unfold isD at h ⊢
 rw [Bool.and_eq_true] at h
 rw [gfind_app h.1,h.1,h.2]
 rfl
theorem gisa_mono {x:ByteArray} {k:Int} (h:isaB D x k=true):isaB (D++[enumD n l]) x k=true:=by
 unfold isaB at h ⊢
 rw [Bool.and_eq_true] at h
 rw [gfind_app h.1,h.1,h.2]
 rfl
theorem gfind_kind {x:ByteArray} {k:Int} (h:(findD D x).1.kind=k) (hk:k ≠ 0):findD (D++[enumD n l]) x=findD D x:=
 gfind_app (findD_is (by rw [h];exact hk)).1
theorem gall_f:allF (D++[enumD n l])=allF D:=by
 unfold allF
 rw [List.flatMap_append]
 show _++[]=_
 rw [List.append_nil]
theorem gall_p:allPm (D++[enumD n l])=allPm D:=by
 unfold allPm allFP allDP
 rw [gall_f,List.flatMap_append]
 show _++(_++[])=_
 rw [List.append_nil]
theorem gall_mono {α:Type} {p q:α→Bool} {l:List α} (h:l.all p=true) (hq:∀ x,x ∈ l→p x=true→q x=true):l.all q=true:=
 List.all_eq_true.2 fun x hx=>hq x hx (List.all_eq_true.1 h x hx)
theorem gall_one {p:DefnT→Bool} (h:D.all p=true) (h1:p (enumD n l)=true):(D++[enumD n l]).all p=true:=by
 rw [List.all_append,h]
 show (true && (p (enumD n l) && true))=true
 rw [h1]
 rfl
theorem gbears (f:ByteArray):bearersL (D++[enumD n l]) f=bearersL D f:=by
 induction D with
 | nil=>rfl
 | cons a t ih=>rw [List.cons_append,bearersL,bearersL,ih]
theorem gwithin:withinL (D++[enumD n l])=withinL D:=funext fun p=>by
 unfold withinL
 have : (findD (D++[enumD n l]) p.tn).1.params=(findD D p.tn).1.params:=by
  cases e:(findD D p.tn).2 with
  | true=>rw [gfind_app e]
  | false =>
    obtain ⟨h1,h2⟩:=gfind_no (n:=n) (l:=l) e
    rw [h1]
    rcases h2 with h2|h2
    · rw [h2]
      rfl
    · rw [h2]
 rw [this]
theorem gplaces:∀ (f:Nat) (p:PlT),placesF (D++[enumD n l]) f p=placesF D f p
 | 0,p=>rfl
 | f+1,p=>by
   rw [placesF,placesF,gwithin]
   have:placesF (D++[enumD n l]) f=placesF D f:=funext fun x=>gplaces f x
   rw [this]
theorem gnamed {x:ByteArray} {v:VT} (h:namedB D x v=true):namedB (D++[enumD n l]) x v=true:=by
 cases e:(findD D x).2 with
 | true =>
   unfold namedB at h ⊢
   rw [gfind_app e]
   exact h
 | false =>
   obtain ⟨h1,_⟩:=gfind_no (n:=n) (l:=l) e
   unfold namedB at h ⊢
   rw [h1] at h
   by_cases k1:(x.toList == [73,110,116])=true
   · rw [if_pos k1] at h ⊢;exact h
   rw [if_neg k1] at h ⊢
   by_cases k2:(x.toList == [83,116,114,105,110,103])=true
   · rw [if_pos k2] at h ⊢;exact h
   rw [if_neg k2] at h ⊢
   by_cases k3:(x.toList == [66,111,111,108,101,97,110])=true
   · rw [if_pos k3] at h ⊢;exact h
   rw [if_neg k3] at h ⊢
   by_cases k4:(x.toList == [73,68])=true
   · rw [if_pos k4] at h ⊢;exact h
   rw [if_neg k4] at h ⊢
   have h:false=true:=h
   cases h
theorem gfits {x:ByteArray} {a b:Int} {v:VT} (h:fitsB D x a b v=true):fitsB (D++[enumD n l]) x a b v=true:=by
 unfold fitsB at h ⊢
 by_cases k1:rightT x.data.toList a b=true
 · rw [if_pos k1] at h ⊢
   by_cases k2:(v.kd == 8)=true
   · rw [if_pos k2]
   rw [if_neg k2] at h ⊢
   by_cases k3:(v.kd == 0)=true
   · rw [if_pos k3] at h ⊢;exact h
   rw [if_neg k3] at h ⊢
   by_cases k4:itemB x a b=true
   · rw [if_pos k4] at h ⊢;exact h
   rw [if_neg k4] at h ⊢
   exact gnamed h
 · rw [if_neg k1] at h
   cases h
theorem gright {p:PlT} (h:rightL D p=true):rightL (D++[enumD n l]) p=true:=by
 unfold rightL allP at h ⊢
 rw [gplaces]
 rw [Bool.and_eq_true] at h ⊢
 exact ⟨h.1,gall_mono h.2 fun x _=>gfits⟩
theorem gneed:needL (D++[enumD n l])=needL D:=by
 unfold needL
 rw [List.foldl_append]
 rfl
end
section
variable {S:SchT} {n:ByteArray} {l:List ByteArray}
theorem gobj:objB (growS S n l)=objB S:=funext fun x=>gis_same x rfl
theorem gposs {b a:ByteArray} (h:a ∈ possL S b):a ∈ possL (growS S n l) b:=by
 unfold possL at h ⊢
 cases e:(findD S.defs b).2 with
 | false =>
   rw [e] at h
   cases h
 | true =>
   have e1:findD (growS S n l).defs b=findD S.defs b:=gfind_app e
   rw [e1]
   have e2:bearersL (growS S n l).defs b=bearersL S.defs b:=gbears b
   have e3:objL (growS S n l)=objL S:=funext fun xs=>by unfold objL;rw [gobj]
   rw [e2,e3]
   exact h
theorem gnar {a b:ByteArray} (h:narB S a b=true):narB (growS S n l) a b=true:=by
 unfold narB at h ⊢
 rw [Bool.or_eq_true] at h ⊢
 rcases h with h|h
 · exact Or.inl h
 · refine Or.inr ?_
   have e1:isD (growS S n l).defs a [1]=isD S.defs a [1]:=gis_same a rfl
   have e2:isD (growS S n l).defs a [2]=isD S.defs a [2]:=gis_same a rfl
   have e3:isD (growS S n l).defs b [2]=isD S.defs b [2]:=gis_same b rfl
   rw [e1,e2,e3]
   by_cases k:isD S.defs a [1]=true
   · rw [if_pos k] at h ⊢
     exact hasN_iff.2 (gposs (hasN_iff.1 h))
   · rw [if_neg k] at h ⊢
     rw [Bool.and_eq_true] at h
     have e4:findD (growS S n l).defs a=findD S.defs a:=gfind_app (by
      have:=h.1
      unfold isD at this
      rw [Bool.and_eq_true] at this
      exact this.1)
     rw [e4,Bool.and_eq_true]
     exact h
theorem gfit6 {own:List FieldT} {g:FieldT} (h:fit6F S own g=true):fit6F (growS S n l) own g=true:=by
 unfold fit6F at h ⊢
 cases e:lastN (fun x:FieldT=>x.name) own g.name with
 | none=>rw [e] at h;cases h
 | some y =>
   rw [e] at h
   have h:(dsubB S y.tn y.tl y.tm g.tn g.tl g.tm && standB y.params g.params)=true:=h
   show (dsubB (growS S n l) y.tn y.tl y.tm g.tn g.tl g.tm && standB y.params g.params)=true
   unfold dsubB at h ⊢
   rw [Bool.and_eq_true,Bool.and_eq_true,Bool.and_eq_true] at h ⊢
   exact ⟨⟨h.1.1,h.1.2.1,gnar h.1.2.2⟩,h.2⟩
noncomputable def newB (n:ByteArray) (l:List ByteArray):Bool:=nameB n.data.toList && (!resB n && (l.all enB && diffB l))
theorem grow_yes (h:checkS S=0) (hl:l ≠ []) (hn:newB n l=true) (ht:(findD S.defs n).2=false):checkS (growS S n l)=0:=by
 obtain ⟨r1,r2,r3,r4,r5,r6,r7,r8,r9⟩:=check_zero h
 have hnd:=sound_names r1
 unfold newB at hn
 rw [Bool.and_eq_true,Bool.and_eq_true,Bool.and_eq_true] at hn
 obtain ⟨n1,n2,n3,n4⟩:=hn
 have hsc:scalarB n=false:=by
   cases e:scalarB n with
   | false=>rfl
   | true=>unfold findD at ht;rw [if_pos e] at ht;cases ht
 have hfl:(findL S.defs n).2=false:=by
   unfold findD at ht
   rw [if_neg (by rw [hsc];decide)] at ht
   exact ht
 have hne:∀ d,d ∈ S.defs→d.name ≠ n:=fun d hd e=>by
   have:=findL_self hnd hd
   rw [e] at this
   rw [this] at hfl
   cases hfl
 refine check_full fun k h1 h2=>?_
 have hk:k=1∨k=2∨k=3∨k=4∨k=5∨k=6∨k=7∨k=8∨k=9:=by omega
 rcases hk with rfl|rfl|rfl|rfl|rfl|rfl|rfl|rfl|rfl
 · show rule1B (growS S n l)=true
   unfold rule1B at r1 ⊢
   rw [Bool.and_eq_true,Bool.and_eq_true] at r1 ⊢
   refine ⟨gall_one r1.1 ?_,?_,nodup_diff ?_⟩
   · unfold namOkB
     have:leafD [] (enumD n l).name=false:=by
       show leafD [] n=false
       unfold leafD isD findD
       rw [if_neg (by rw [hsc];decide)]
       rfl
     rw [this]
     show (!(resB n || false))=true
     rw [Bool.or_false]
     exact n2
   · have h2:=r1.2.1
     unfold schB at h2 ⊢
     rw [Bool.and_eq_true,Bool.and_eq_true] at h2 ⊢
     refine ⟨h2.1,h2.2.1,gall_one h2.2.2 ?_⟩
     unfold defB
     rw [Bool.and_eq_true]
     refine ⟨n1,?_⟩
     show (someB l enB && (noB ([]:List ByteArray) && (noB ([]:List FieldT) && noB ([]:List VarT))))=true
     rw [Bool.and_eq_true]
     refine ⟨?_,rfl⟩
     unfold someB
     rw [n3,Bool.and_true]
     cases l with
     | nil=>exact absurd rfl hl
     | cons _ _=>rfl
   · show ((S.defs++[enumD n l]).map fun x=>x.name).Nodup
     rw [List.map_append]
     refine List.nodup_append.2 ⟨hnd,List.nodup_cons.2 ⟨by simp,List.nodup_nil⟩,fun a ha b hb e=>?_⟩
     obtain ⟨d,hd,rfl⟩:=List.mem_map.1 ha
     have hb:b=n:=List.mem_singleton.1 hb
     exact hne d hd (e.trans hb)
 · show rule2B (growS S n l)=true
   unfold rule2B at r2 ⊢
   rw [Bool.and_eq_true,Bool.or_eq_true,Bool.and_eq_true] at r2 ⊢
   refine ⟨gisa_mono r2.1,?_⟩
   rcases r2.2 with h|h
   · exact Or.inl h
   · exact Or.inr ⟨h.1,gisa_mono h.2⟩
 · show rule3B (growS S n l)=true
   unfold rule3B at r3 ⊢
   rw [Bool.and_eq_true,Bool.and_eq_true] at r3 ⊢
   refine ⟨⟨gall_one r3.1.1 ?_,?_⟩,?_⟩
   · unfold nam3D
     show (diffB ([]:List ByteArray) && (diffB ([]:List ByteArray) && (diffB (l.map fun x=>x) && diffB ([]:List ByteArray))))=true
     rw [List.map_id' l,n4]
     rfl
   · show (allF (S.defs++[enumD n l])).all nam3F=true
     rw [gall_f]
     exact r3.1.2
   · show (allPm (S.defs++[enumD n l])).all nam3P=true
     rw [gall_p]
     exact r3.2
 · show rule4B (growS S n l)=true
   unfold rule4B at r4 ⊢
   rw [Bool.and_eq_true] at r4 ⊢
   refine ⟨?_,?_⟩
   · show (allF (S.defs++[enumD n l])).all (fit4F (S.defs++[enumD n l]))=true
     rw [gall_f]
     refine gall_mono r4.1 fun f _ hf=>?_
     unfold fit4F leafD compD at hf ⊢
     rw [Bool.or_eq_true] at hf ⊢
     rcases hf with hf|hf
     · exact Or.inl (gis_mono hf)
     · exact Or.inr (gis_mono hf)
   · show (allPm (S.defs++[enumD n l])).all (fit4P (S.defs++[enumD n l]))=true
     rw [gall_p]
     refine gall_mono r4.2 fun f _ hf=>?_
     unfold fit4P entryD at hf ⊢
     exact gis_mono hf
 · show rule5B (growS S n l)=true
   unfold rule5B at r5 ⊢
   refine gall_one (gall_mono r5 fun d _ hd=>?_) rfl
   unfold un5B at hd ⊢
   refine gall_mono hd fun s _ hs=>?_
   unfold face5B at hs ⊢
   rw [Bool.and_eq_true] at hs
   have e:findD (growS S n l).defs s=findD S.defs s:=gfind_kind (eq_of_beq hs.1) (by decide)
   rw [e,Bool.and_eq_true]
   exact hs
 · show rule6B (growS S n l)=true
   unfold rule6B at r6 ⊢
   refine gall_one (List.all_eq_true.2 fun d hd=>?_) rfl
   have hd6:=List.all_eq_true.1 r6 d hd
   unfold un6B at hd6 ⊢
   refine gall_mono hd6 fun s hs h6=>?_
   have e:findD (growS S n l).defs s=findD S.defs s:=gfind_kind (sound_face r5 hd hs) (by decide)
   unfold face6B at h6 ⊢
   rw [e]
   exact gall_mono h6 fun g _=>gfit6
 · show rule7B (growS S n l)=true
   unfold rule7B at r7 ⊢
   refine gall_one (gall_mono r7 fun d _ hd=>?_) rfl
   unfold un7B at hd ⊢
   rw [Bool.or_eq_true] at hd ⊢
   rcases hd with hd|hd
   · exact Or.inl hd
   · exact Or.inr (gall_mono hd fun s _=>gisa_mono)
 · show rule8B (growS S n l)=true
   refine rule8_yes fun d hd=>?_
   have e:needL (growS S n l).defs=needL S.defs:=gneed
   rw [e]
   rcases List.mem_append.1 hd with hd|hd
   · by_cases h2:Acc (fun b a=>b ∈ needL S.defs a) d.name
     · exact h2
     · rw [rule8_no hd h2] at r8
       cases r8
   · have hd:d=enumD n l:=List.mem_singleton.1 hd
     subst hd
     refine Acc.intro _ fun b hb=>?_
     have e2:needL S.defs n=[]:=by
       unfold needL
       rw [need_far _ _ _ (fun hm=>by
        obtain ⟨d,hd,e⟩:=List.mem_map.1 hm
        exact hne d hd e)]
     have hb:b ∈ needL S.defs n:=hb
     rw [e2] at hb
     cases hb
 · show rule9B (growS S n l)=true
   unfold rule9B at r9 ⊢
   rw [Bool.and_eq_true] at r9 ⊢
   refine ⟨?_,gall_one (gall_mono r9.2 fun d _ hd=>?_) rfl⟩
   · show (allPm (S.defs++[enumD n l])).all (rt9P (S.defs++[enumD n l]))=true
     rw [gall_p]
     refine gall_mono r9.1 fun p _ hp=>?_
     unfold rt9P at hp ⊢
     rw [Bool.or_eq_true] at hp ⊢
     rcases hp with hp|hp
     · exact Or.inl hp
     · exact Or.inr (gright hp)
   · unfold lf9D at hd ⊢
     refine gall_mono hd fun p _ hp=>?_
     unfold lf9P leafD at hp ⊢
     rw [Bool.or_eq_true] at hp ⊢
     rcases hp with hp|hp
     · exact Or.inl hp
     · exact Or.inr (gis_mono hp)
theorem grow_no (h:checkS (growS S n l)=0):newB n l=true∧(findD S.defs n).2=false:=by
 obtain ⟨r1,_,r3,_⟩:=check_zero h
 have hnd:=sound_names r1
 have hE:enumD n l ∈ (growS S n l).defs:=List.mem_append_right _ (List.mem_singleton.2 rfl)
 unfold rule1B at r1
 rw [Bool.and_eq_true,Bool.and_eq_true] at r1
 have o1:=List.all_eq_true.1 r1.1 _ hE
 have o2:=r1.2.1
 unfold schB at o2
 rw [Bool.and_eq_true,Bool.and_eq_true] at o2
 have o3:=List.all_eq_true.1 o2.2.2 _ hE
 unfold defB at o3
 rw [Bool.and_eq_true] at o3
 have o4:(someB l enB && (noB ([]:List ByteArray) && (noB ([]:List FieldT) && noB ([]:List VarT))))=true:=o3.2
 rw [Bool.and_eq_true] at o4
 have o5:=o4.1
 unfold someB at o5
 rw [Bool.and_eq_true] at o5
 unfold rule3B at r3
 rw [Bool.and_eq_true,Bool.and_eq_true] at r3
 have o6:=List.all_eq_true.1 r3.1.1 _ hE
 unfold nam3D at o6
 have o6:(diffB ([]:List ByteArray) && (diffB ([]:List ByteArray) && (diffB (l.map fun x=>x) && diffB ([]:List ByteArray))))=true:=o6
 rw [Bool.and_eq_true,Bool.and_eq_true,Bool.and_eq_true,List.map_id' l] at o6
 unfold namOkB at o1
 have o7:resB n=false∧leafD [] n=false:=by
   have o1:(!(resB n || leafD [] n))=true:=o1
   cases a:resB n<;>cases b:leafD [] n<;>rw [a,b] at o1<;>first|exact ⟨rfl,rfl⟩|cases o1
 refine ⟨?_,?_⟩
 · unfold newB
   have:nameB n.data.toList=true:=o3.1
   rw [this,o7.1,o5.2,o6.2.2.1]
   rfl
 · unfold findD
   rw [if_neg (by rw [scalar_leaf o7.2];decide)]
   cases e:(findL S.defs n).2 with
   | false=>rfl
   | true =>
     obtain ⟨h1,h2⟩:=findL_is e
     have hnd:((S.defs++[enumD n l]).map fun x=>x.name).Nodup:=hnd
     rw [List.map_append] at hnd
     exact absurd h2 ((List.nodup_append.1 hnd).2.2 _ (List.mem_map.2 ⟨_,h1,rfl⟩) _ (List.mem_singleton.2 rfl))
theorem grow_iff (h:checkS S=0) (hl:l ≠ []):(checkS (growS S n l) == 0)=(newB n l && !(findD S.defs n).2):=by
 cases e:(checkS (growS S n l) == 0) with
 | true =>
   obtain ⟨h1,h2⟩:=grow_no (eq_of_beq e)
   rw [h1,h2]
   rfl
 | false =>
   cases e1:newB n l with
   | false=>rfl
   | true =>
     cases e2:(findD S.defs n).2 with
     | true=>rfl
     | false =>
       rw [grow_yes h hl e1 e2] at e
       cases e
end
end Go.Proofs.YtaekdfcpbepepaaGreatDoor
