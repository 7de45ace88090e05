/- schema's rule 8. (gen_rule8.py wrote it.) -/
import Derived.Test.YtaekdfcpbepepaaGreatDoorQbz
import Derived.Test.YtaekdfcpbepepaaGreatDoorQb43
set_option maxRecDepth 100000
set_option maxHeartbeats 16000000
namespace Go.Proofs.YtaekdfcpbepepaaGreatDoor
open List renaming getElem_toArray → zgA, getElem_cons_zero → zgB, getElem_cons_succ → zgC
open Go.RowKit
theorem q8_written {lo:Nat} {wz W:World} {a1 b1 a2 b2 a3 b3:Nat} {v1 v2 v3:Value} (h:QL lo wz [(a1,b1,v1),(a2,b2,v2),(a3,b3,v3)] W) :
  W.cell? ⟨a1,b1,none⟩=some v1∧W.cell? ⟨a2,b2,none⟩=some v2∧W.cell? ⟨a3,b3,none⟩=some v3∧QL lo wz [(a1,b1,v1),(a2,b2,v2),(a3,b3,v3)] W:=
 ⟨h.1 (a1,b1,v1) (by simp),h.1 (a2,b2,v2) (by simp),h.1 (a3,b3,v3) (by simp),h⟩
theorem q8_last {lo:Nat} {wz W:World} {cs:List (Nat × Nat × Value)} {p1 p2 p3:Prop} (h:p1∧p2∧p3∧QL lo wz cs W):QL lo wz cs W:=h.2.2.2
def needS (L:ByteArray→List ByteArray) (d:DefnT):ByteArray→List ByteArray:=if (d.kind == 5)=true then updR L d.name (reqL d.params) else L
def needL (D:List DefnT):ByteArray→List ByteArray:=D.foldl needS (fun _=>[])
theorem need_take {D:List DefnT} {q:Nat} {d:DefnT} (h:D[q]? = some d):needL (D.take (q+1))=needS (needL (D.take q)) d:=by
 unfold needL
 rw [List.take_add_one,h,List.foldl_append]
 rfl
theorem need_key (D:List DefnT):∀ a,needL D a ≠ []→a ∈ D.map fun d=>d.name:=by
 have key:∀ (D:List DefnT) (L:ByteArray→List ByteArray) a,D.foldl needS L a ≠ []→a ∈ (D.map fun d=>d.name)∨L a ≠ []:=by
   intro D
   induction D with
   | nil=>intro L a h;exact .inr h
   | cons d t ih =>
     intro L a h
     rw [List.foldl_cons] at h
     rcases ih _ a h with h1|h1
     · exact .inl (List.mem_cons_of_mem _ h1)
     · unfold needS at h1
       split at h1
       · unfold updR at h1
         by_cases e:a=d.name
         · exact .inl (by rw [e];exact List.mem_cons_self ..)
         · rw [if_neg e] at h1;exact .inr h1
       · exact .inr h1
 intro a h
 rcases key D _ a h with h|h
 · exact h
 · exact absurd rfl h
def keysD (D:List DefnT):List ByteArray:=onceL (D.map fun d=>d.name)
theorem upd_sum_le {K:List ByteArray} (hK:K.Nodup) (L:ByteArray→List ByteArray) (a:ByteArray) (t:List ByteArray):sumR K (updR L a t)≤sumR K L+t.length:=by
 induction K with
 | nil=>simp [sumR]
 | cons b K ih =>
   have hn:=List.nodup_cons.1 hK
   have ih:=ih hn.2
   unfold sumR at ih ⊢
   simp only [List.map_cons,List.sum_cons]
   by_cases e:b=a
   · subst e
     have h1:(K.map fun c=>(updR L b t c).length)=K.map fun c=>(L c).length:=List.map_congr_left (fun c hc=>by
      have e:c ≠ b:=fun e=>hn.1 (e ▸ hc)
      unfold updR
      rw [if_neg e])
     rw [h1]
     unfold updR
     rw [if_pos rfl]
     omega
   · have h1:(updR L a t b).length=(L b).length:=by unfold updR;rw [if_neg e]
     omega
theorem adds8:∀ (l out:List ByteArray),out.Nodup→(l.foldl addN out).Nodup∧∀ a,a ∈ out∨a ∈ l→a ∈ l.foldl addN out
 | [],out,h=>⟨h,fun a ha=>by rcases ha with h|h;exact h;cases h⟩
 | s :: t,out,h=>by
   have h1:(addN out s).Nodup∧(∀ a,a ∈ out→a ∈ addN out s)∧s ∈ addN out s:=by
     unfold addN
     split
     · next e=>exact ⟨h,fun _ h=>h,hasN_iff.1 e⟩
     · next e =>
       refine ⟨?_,fun a ha=>List.mem_append_left _ ha,List.mem_append_right _ (List.mem_singleton.2 rfl)⟩
       refine List.nodup_append.2 ⟨h,by simp,fun a ha b hb=>?_⟩
       rw [List.mem_singleton] at hb
       subst hb
       rintro rfl
       exact e (hasN_iff.2 ha)
   obtain ⟨h2,h3⟩:=adds8 t _ h1.1
   refine ⟨h2,fun a ha=>h3 a ?_⟩
   rcases ha with h|h
   · exact .inl (h1.2.1 a h)
   · rcases List.mem_cons.1 h with rfl|h
     · exact .inl h1.2.2
     · exact .inr h
theorem nd8 (l:List ByteArray):(onceL l).Nodup:=(adds8 l [] List.nodup_nil).1
theorem mem8 (l:List ByteArray):∀ a,a ∈ l→a ∈ onceL l:=fun a ha=>(adds8 l [] List.nodup_nil).2 a (.inr ha)
theorem sum_none (K:List ByteArray):sumR K (fun _:ByteArray=>([]:List ByteArray))=0:=by
 unfold sumR
 induction K with
 | nil=>rfl
 | cons b K ih=>rw [List.map_cons,List.sum_cons,ih];rfl
theorem need_sum {K:List ByteArray} (hK:K.Nodup) (D:List DefnT):sumR K (needL D)≤(allDP D).length:=by
 have key:∀ (D:List DefnT) (L:ByteArray→List ByteArray),sumR K (D.foldl needS L)≤sumR K L+(allDP D).length:=by
  intro D
  induction D with
  | nil=>intro L;exact Nat.le_add_right _ _
  | cons d t ih =>
    intro L
    rw [List.foldl_cons]
    have h1:=ih (needS L d)
    have h2:sumR K (needS L d)≤sumR K L+d.params.length:=by
     unfold needS
     split
     · exact Nat.le_trans (upd_sum_le hK L d.name (reqL d.params)) (Nat.add_le_add_left (req_len _) _)
     · exact Nat.le_add_right _ _
    have h3:(allDP (d :: t)).length=d.params.length+(allDP t).length:=by unfold allDP;rw [List.flatMap_cons,List.length_append]
    omega
 have h:=key D (fun _=>[])
 have h0:=sum_none K
 unfold needL
 omega
open Classical in
noncomputable def rule8B (S:SchT):Bool:=decide (∀ d,d ∈ S.defs→Acc (fun b a=>b ∈ needL S.defs a) d.name)
open Classical in
theorem rule8_yes {S:SchT} (h:∀ d,d ∈ S.defs→Acc (fun b a=>b ∈ needL S.defs a) d.name):rule8B S=true:=by unfold rule8B;exact decide_eq_true h
open Classical in
theorem rule8_no {S:SchT} {d:DefnT} (hd:d ∈ S.defs) (h : ¬ Acc (fun b a=>b ∈ needL S.defs a) d.name):rule8B S=false:=by unfold rule8B;exact decide_eq_false (fun h2=>h (h2 d hd))
theorem req_size {l:List VarT} {N:Nat} (h:∀ p,p ∈ l→p.tn.size≤N):∀ x,x ∈ reqL l→x.size≤N:=by
 induction l with
 | nil=>intro x hx;cases hx
 | cons p t ih =>
   intro x hx
   unfold reqL at hx
   split at hx
   · rcases List.mem_cons.1 hx with rfl|hx
     · exact h p (List.mem_cons_self ..)
     · exact ih (fun q hq=>h q (List.mem_cons_of_mem _ hq)) x hx
   · exact ih (fun q hq=>h q (List.mem_cons_of_mem _ hq)) x hx
theorem held_row {X:Nat→Prop} {base:Nat} {W:World} {v:Value} {xs:List ByteArray} (h:SR base W v xs) (hX:∀ b,X b→b < base) (hs:∀ x,x ∈ xs→x.size≤maxLen):HeldRow X W.heap.size W (some v) xs:=by
 cases xs with
 | nil =>
   obtain ⟨A,c,rfl⟩:=h.form
   exact ⟨A,c,rfl,Nat.zero_le _,fun j x hx=>by simp at hx⟩
 | cons y t =>
   unfold SR at h
   obtain ⟨g,cp,rfl,hb,hg⟩:=World.ownsRow.form h (by simp)
   have hcp:(y :: t).length≤cp:=by
    rcases h.2 with ⟨e,_⟩|⟨g',cap,cur,e,_,_,hnc,_⟩
    · cases e
    · simp only [Value.slice.injEq,true_and] at e
      obtain ⟨_,rfl⟩:=e
      exact hnc
   refine ⟨_,cp,rfl,hcp,fun j x hx=>⟨g,0,rfl,hg,fun hx=>by have:=hX g hx;omega,?_,hs x (List.mem_of_getElem? hx)⟩⟩
   have:=World.ownsRow.cells h (g:=g) rfl j (.string x) (by rw [List.getElem?_map,hx];rfl)
   rw [add_at] at this
   simpa using this
theorem p8_tn {w:World} {P:Nat→Prop} {l:List VarT} {A:Option Addr} (h:RowT w P (rowOf encVar l) A):∀ x,x ∈ l→x.tn.size≤maxLen:=by
 intro x hx
 obtain ⟨i,hi⟩:=List.getElem?_of_mem hx
 obtain ⟨_,_,_,_,_,_,hT⟩:=rowOf_at 10 len_par h hi
 obtain ⟨_,_,_,_,_,_,hsz⟩:=var_cells hT
 unfold maxLen
 omega
theorem start8 (w:World) (o1 o2:Obj):LeftM (X3 (w.heap.size+1) (w.heap.size+1+1) (w.heap.size+1+1+1)) (((((w.alloc o1).alloc (.map #[] 0)).alloc (.map #[] 0)).alloc (.map #[] 0)).alloc o2).heap.size (((((w.alloc o1).alloc (.map #[] 0)).alloc (.map #[] 0)).alloc (.map #[] 0)).alloc o2) (w.heap.size+1) 0 (needL [])∧SetM (((((w.alloc o1).alloc (.map #[] 0)).alloc (.map #[] 0)).alloc (.map #[] 0)).alloc o2) (w.heap.size+1+1) 0 (fun _=>false)∧SetM (((((w.alloc o1).alloc (.map #[] 0)).alloc (.map #[] 0)).alloc (.map #[] 0)).alloc o2) (w.heap.size+1+1+1) 0 (fun _=>false):=by
 have h1:LeftM (X3 (w.heap.size+1) (w.heap.size+1+1) (w.heap.size+1+1+1)) 0 ((w.alloc o1).alloc (.map #[] 0)) (w.heap.size+1) 0 (needL []):=by
   have:=LeftM.new (X3 (w.heap.size+1) (w.heap.size+1+1) (w.heap.size+1+1+1)) 0 (w.alloc o1)
   rw [World.size_alloc] at this
   exact this
 have h2:SetM (((w.alloc o1).alloc (.map #[] 0)).alloc (.map #[] 0)) (w.heap.size+1+1) 0 (fun _=>false):=by
   have:=SetM.new ((w.alloc o1).alloc (.map #[] 0))
   rw [World.size_alloc,World.size_alloc] at this
   exact this
 have h3:SetM ((((w.alloc o1).alloc (.map #[] 0)).alloc (.map #[] 0)).alloc (.map #[] 0)) (w.heap.size+1+1+1) 0 (fun _=>false):=by
   have:=SetM.new (((w.alloc o1).alloc (.map #[] 0)).alloc (.map #[] 0))
   rw [World.size_alloc,World.size_alloc,World.size_alloc] at this
   exact this
 refine ⟨(h1.keep ?_ (fun b hb=>absurd hb (by omega))).more (Nat.zero_le _),h2.keep ?_,h3.keep ?_⟩
 · rw [Below.heap_alloc _ _ _ (by simp),Below.heap_alloc _ _ _ (by simp),Below.heap_alloc _ _ _ (by simp)]
 · rw [Below.heap_alloc _ _ _ (by simp),Below.heap_alloc _ _ _ (by simp)]
 · rw [Below.heap_alloc _ _ _ (by simp)]
theorem rule8_any (S:SchT) (hz:SlimS S) (hN8:2*S.defs.length+2*(allDP S.defs).length≤1099511627776) (c0 c1 c2:Value) (w:World) (B:Nat) (hB:B≤w.heap.size) (hS:TS w (fun b=>b < B) (encSch S) [c0,c1,c2]) :
  Calls Tryz.prog 61 #[.agg #[c0,c1,c2]] w fun e w'=>e=.returned (.bool (rule8B S))∧Below w.heap.size w w':=by
 have HZD:Hid (∀ d,d ∈ S.defs→d.params.length*16≤140737488355328):=Hd (fun d hd=>by
  obtain ⟨h1,h2,h3,h4,_⟩:=hz.2 d hd
  omega)
 have hmm:=@run_makeMap Tryz.prog
 obtain ⟨A,k,e,hl,hR⟩:=sch_cells hS
 injection e with e0 e
 injection e with e1 e
 injection e with e2 e
 subst e0 e1 e2
 have HR:=Hd hR
 have HB:=Hd hB
 have HN8:=Hd hN8
 clear hB hS hR hz e hN8
 go_enter Tryz.func61,Tryz.ntmps61
 go_upto_region 2 with fail
 clear hmm
 have b1:=dbelow_new w (.cells #[.slice A S.defs.length k,.string S.query,.string S.mutation] 24)
 have b2:=b1.alloc (by simp) (.map #[] 0)
 have b3:=b2.alloc (by simp;omega) (.map #[] 0)
 have b4:=b3.alloc (by simp;omega) (.map #[] 0)
 have b5:=b4.alloc (by simp;omega) (.cells #[.map (some (w.heap.size+1)),.map (some (w.heap.size+1+1)),.map (some (w.heap.size+1+1+1))] 125)
 have HM0:=Hd (start8 w (.cells #[.slice A S.defs.length k,.string S.query,.string S.mutation] 24) (.cells #[.map (some (w.heap.size+1)),.map (some (w.heap.size+1+1)),.map (some (w.heap.size+1+1+1))] 125))
 have S0:Hid ((((((w.alloc (.cells #[.slice A S.defs.length k,.string S.query,.string S.mutation] 24)).alloc (.map #[] 0)).alloc (.map #[] 0)).alloc (.map #[] 0)).alloc (.cells #[.map (some (w.heap.size+1)),.map (some (w.heap.size+1+1)),.map (some (w.heap.size+1+1+1))] 125)).heap[w.heap.size]? = some (.cells #[.slice A S.defs.length k,.string S.query,.string S.mutation] 24 (0,0))):=Hd (by
  rw [Below.heap_alloc _ _ _ (by simp;omega),Below.heap_alloc _ _ _ (by simp;omega),Below.heap_alloc _ _ _ (by simp;omega),Below.heap_alloc _ _ _ (by simp)]
  exact heap_alloc_new _ _)
 have X0:Hid ((((((w.alloc (.cells #[.slice A S.defs.length k,.string S.query,.string S.mutation] 24)).alloc (.map #[] 0)).alloc (.map #[] 0)).alloc (.map #[] 0)).alloc (.cells #[.map (some (w.heap.size+1)),.map (some (w.heap.size+1+1)),.map (some (w.heap.size+1+1+1))] 125)).heap[w.heap.size+1+1+1+1]? = some (.cells #[.map (some (w.heap.size+1)),.map (some (w.heap.size+1+1)),.map (some (w.heap.size+1+1+1))] 125 (0,0))):=Hd (by
  have h:=heap_alloc_new ((((w.alloc (.cells #[.slice A S.defs.length k,.string S.query,.string S.mutation] 24)).alloc (.map #[] 0)).alloc (.map #[] 0)).alloc (.map #[] 0)) (.cells #[.map (some (w.heap.size+1)),.map (some (w.heap.size+1+1)),.map (some (w.heap.size+1+1+1))] 125)
  simpa using h)
 have B0:=Hd b5
 clear b1 b2 b3 b4 b5
 generalize (((((w.alloc (.cells #[.slice A S.defs.length k,.string S.query,.string S.mutation] 24)).alloc (.map #[] 0)).alloc (.map #[] 0)).alloc (.map #[] 0)).alloc (.cells #[.map (some (w.heap.size+1)),.map (some (w.heap.size+1+1)),.map (some (w.heap.size+1+1+1))] 125))=w1 at HM0 S0 X0 B0 ⊢
 obtain ⟨lb,hlb⟩:∃ b,w.heap.size+1=b:=⟨_,rfl⟩
 rw [hlb] at HM0 X0 ⊢
 obtain ⟨gb,hgb⟩:∃ b,lb+1=b:=⟨_,rfl⟩
 rw [hgb] at HM0 X0 ⊢
 obtain ⟨eb,heb⟩:∃ b,gb+1=b:=⟨_,rfl⟩
 rw [heb] at HM0 X0 ⊢
 obtain ⟨gx,hgx⟩:∃ b,eb+1=b:=⟨_,rfl⟩
 rw [hgx] at X0 ⊢
 have HNUM:Hid (w.heap.size < lb∧lb < gb∧gb < eb∧eb < gx):=Hd (by omega)
 have HXN:Hid (∀ b,X3 lb gb eb b→w.heap.size < b∧b < gx):=Hd (fun b hb=>by
  have h:=HNUM.out
  rcases hb with rfl|rfl|rfl<;>omega)
 have HGB:Hid (w.heap.size≤lb∧lb ≠ gx∧gx < w1.heap.size):=Hd ⟨by omega,by omega,(Array.getElem?_eq_some_iff.1 X0.out).1⟩
 clear hlb hgb heb hgx
 obtain ⟨y0,y1,y2⟩:=three_cells S0.out
 go_wp2_with fail
 clear y0 y1 y2
 go_loopg [15] S.defs.length (fun g i wx=>∃ q:Nat,q+g=S.defs.length∧i=.int .i64 q∧Aside (LeftM (X3 lb gb eb) wx.heap.size wx lb q (needL (S.defs.take q))∧SetM wx gb 0 (fun _=>false)∧SetM wx eb 0 (fun _=>false)∧Below w.heap.size w wx∧wx.heap[w.heap.size]? = some (.cells #[.slice A S.defs.length k,.string S.query,.string S.mutation] 24 (0,0))∧wx.heap[gx]? = some (.cells #[.map (some lb),.map (some gb),.map (some eb)] 125 (0,0))∧w1.heap.size≤wx.heap.size))
 case atStart=>exact ⟨0,by omega,rfl,Blk.Aside.intro ⟨HM0.out.1,HM0.out.2.1,HM0.out.2.2,B0.out,S0.out,X0.out,Nat.le_refl _⟩⟩
 case round =>
  obtain ⟨q,hq,rfl,hx⟩:=hrel
  obtain ⟨h1,h2,h3,h4,h5,h6,h7⟩:=hx.out
  have HLM:=Hd h1
  have HG0:=Hd h2
  have HE0:=Hd h3
  have BX:=Hd h4
  have SX:=Hd h5
  have XX:=Hd h6
  have HSZ:=Hd h7
  clear hx h1 h2 h3 h4 h5 h6 h7 HM0 S0 X0 B0
  cases gk with
  | zero =>
    obtain rfl:q=S.defs.length:=by omega
    rw [List.take_length] at HLM
    have hnum:=HNUM.out
    have M0:=Hd (SrchM.mk (N:=wr.heap.size) HLM.out (HG0.out.le (Nat.zero_le S.defs.length)) (HE0.out.le (Nat.zero_le S.defs.length)) ⟨by omega,by omega,by omega⟩ (Nat.le_refl _))
    obtain ⟨N,hN⟩:∃ n,wr.heap.size=n:=⟨_,rfl⟩
    rw [hN] at M0
    have hKD:(keysD S.defs).Nodup:=by unfold keysD;exact nd8 _
    have HKD:Hid (∀ a,needL S.defs a ≠ []→a ∈ keysD S.defs):=Hd (fun a ha=>mem8 _ a (need_key S.defs a ha))
    have HSUM:Hid (sumR (keysD S.defs) (needL S.defs)≤(allDP S.defs).length):=Hd (need_sum hKD S.defs)
    obtain ⟨N0,hN0⟩:∃ n,S.defs.length+2*sumR (keysD S.defs) (needL S.defs)=n:=⟨_,rfl⟩
    have HN0:Hid (N0+S.defs.length≤1099511627776):=Hd (by have h1:=HSUM.out;have h2:=HN8.out;omega)
    have HNE0:=Hd (Nat.le_of_eq hN0)
    clear hN hKD hN0 HLM HG0 HE0 HSZ HSUM HN8
    obtain ⟨y0,y1,y2⟩:=three_cells SX.out
    go_wp2_with fail
    clear y0 y1 y2
    go_loopg [33] S.defs.length (fun g i wx=>∃ q:Nat,q+g=S.defs.length∧i=.int .i64 q∧Aside (∃ n L bg en,SrchM N wx lb gb eb n L bg en∧RingI (needL S.defs) L bg en []∧(∀ d,d ∈ S.defs.take q→en d.name=true)∧n+2*sumR (keysD S.defs) L≤N0+q∧(∀ a,L a ≠ []→a ∈ keysD S.defs)∧Below w.heap.size w wx∧wx.heap[w.heap.size]? = some (.cells #[.slice A S.defs.length k,.string S.query,.string S.mutation] 24 (0,0))∧wx.heap[gx]? = some (.cells #[.map (some lb),.map (some gb),.map (some eb)] 125 (0,0))))
    case atStart=>exact ⟨0,by omega,rfl,Blk.Aside.intro ⟨_,_,_,_,M0.out,ring_new _,fun d hd=>by simp at hd,HNE0.out,HKD.out,BX.out,SX.out,XX.out⟩⟩
    case round =>
      obtain ⟨q,hq,rfl,hx⟩:=hrel
      obtain ⟨n,L,bg,en,h1,h2,h3,h4,h5,h6,h7,h8⟩:=hx.out
      have HSM:=Hd h1
      have HRI:=Hd h2
      have HEN:=Hd h3
      have HNN:=Hd h4
      have HKL:=Hd h5
      have BX:=Hd h6
      have SX:=Hd h7
      have XX:=Hd h8
      clear hx h1 h2 h3 h4 h5 h6 h7 h8 M0
      cases gk with
      | zero =>
        obtain rfl:q=S.defs.length:=by omega
        have HA:Hid (rule8B S=true):=Hd (rule8_yes (fun d hd=>HRI.out.acc _ (HEN.out d (by rw [List.take_length];exact hd))))
        go_wp2_with fail
        go_ret
        exact ⟨by rw [HA.out];rfl,BX.out⟩
      | succ g =>
        have hqn:q < S.defs.length:=by omega
        have hqn':(q:Int) < (S.defs.length:Int):=by omega
        obtain ⟨d,hx⟩:∃ x,S.defs[q]? = some x:=⟨_,List.getElem?_eq_getElem hqn⟩
        obtain ⟨b,o,cs,rfl,hb,hc,hT⟩:=rowOf_at 6 defn_len HR.out hx
        have HBL:=Hd (Nat.lt_of_lt_of_le hb HB.out)
        obtain ⟨Af,kf,Ax,kx,Ap,kp,Am,km,rfl,hdn,_⟩:=defn_cells hT
        have x0:=(BX.out.cell (p:=⟨b,o+q*6,none⟩) HBL.out).trans (hc 0 _ rfl)
        have x1:=(BX.out.cell (p:=⟨b,o+q*6+1,none⟩) HBL.out).trans (hc 1 _ rfl)
        have x2:=(BX.out.cell (p:=⟨b,o+q*6+2,none⟩) HBL.out).trans (hc 2 _ rfl)
        have x3:=(BX.out.cell (p:=⟨b,o+q*6+3,none⟩) HBL.out).trans (hc 3 _ rfl)
        have x4:=(BX.out.cell (p:=⟨b,o+q*6+4,none⟩) HBL.out).trans (hc 4 _ rfl)
        have x5:=(BX.out.cell (p:=⟨b,o+q*6+5,none⟩) HBL.out).trans (hc 5 _ rfl)
        have HDX:=Hd hx
        clear hx hb hc hT
        go_upto_region 11 with fail
        clear x0 x1 x2 x3 x4 x5
        have bn:=dbelow_new wr (.cells #[.int .i64 d.kind,.string d.name,.slice Af d.faces.length kf,.slice Ax d.fields.length kx,.slice Ap d.parts.length kp,.slice Am d.params.length km] 37)
        have B2:=Hd (BX.out.trans (bn.mono BX.out.size))
        have YN:=Hd (heap_alloc_new wr (.cells #[.int .i64 d.kind,.string d.name,.slice Af d.faces.length kf,.slice Ax d.fields.length kx,.slice Ap d.parts.length kp,.slice Am d.params.length km] 37))
        have SN:=Hd ((bn.block _ (Array.getElem?_eq_some_iff.1 SX.out).1).trans SX.out)
        have XN:=Hd ((bn.block _ (Array.getElem?_eq_some_iff.1 XX.out).1).trans XX.out)
        have M2:=Hd (HSM.out.on bn)
        generalize wr.alloc (.cells #[.int .i64 d.kind,.string d.name,.slice Af d.faces.length kf,.slice Ax d.fields.length kx,.slice Ap d.parts.length kp,.slice Am d.params.length km] 37)=v0 at B2 YN SN XN M2 ⊢
        generalize wr.heap.size=gd at YN ⊢
        clear bn BX SX XX HSM
        obtain ⟨⟨y0,y1,y2,y3,y4,y5⟩,_⟩:=six_cells YN.out
        obtain ⟨x0,x1,x2⟩:=three_cells XN.out
        have RG:=Hd (ring_any lb gb eb (keysD S.defs) L bg en d.name n (N0+q+1) N v0 M2.out HKL.out (by unfold maxLen;omega) (by have h:=HNN.out;rw [meas_eq,List.length_singleton];omega) (by have h:=HN0.out;omega))
        go_wp2_with fail
        refine RG.out.mono ?_
        rintro e w3 ⟨r,L',bg',en',n',rfl,hrs,hm3,hmo,hn3,hk3⟩
        have HRS:=Hd (ring_sound hrs (ring_from HRI.out d.name))
        have HXN':=HXN.out
        have B3:=Hd (B2.out.trans (hmo.low (fun b hb hx=>by have:=HXN' b hx;omega) B2.out.size))
        have S3:=Hd (hmo.heap SN.out (fun hx=>by have:=HXN' _ hx;omega))
        have X3':=Hd (hmo.heap XN.out (fun hx=>by have:=HXN' _ hx;omega))
        have M3:=Hd hm3
        have HN3:=Hd hn3
        have HK3:=Hd hk3
        clear hrs hm3 hmo hn3 hk3 y0 y1 y2 y3 y4 y5 x0 x1 x2 RG HXN'
        cases r with
        | true =>
          have HNO:Hid (rule8B S=false):=Hd (rule8_no (List.mem_of_getElem? HDX.out) (HRS.out.1 rfl d.name rfl))
          go_wp2_with fail
          go_ret
          exact ⟨by rw [HNO.out];rfl,B3.out⟩
        | false =>
          have HR3:=Hd (HRS.out.2 rfl)
          go_wp2_with fail
          go_roundg g
          case measure=>omega
          case rel=>exact ⟨q+1,by omega,by go_num,Blk.Aside.intro ⟨n',L',bg',en',M3.out,HR3.out.1,fun d' hd'=>by
           rw [List.take_add_one,HDX.out] at hd'
           rcases List.mem_append.1 hd' with h|h
           · exact HR3.out.2.2 _ (HEN.out d' h)
           · have e:d'=d:=by simpa using h
             rw [e]
             exact HR3.out.2.1 _ (List.mem_singleton.2 rfl),by have h:=HN3.out;omega,HK3.out,B3.out,S3.out,X3'.out⟩⟩
  | succ g =>
    have hqn:q < S.defs.length:=by omega
    have hqn':(q:Int) < (S.defs.length:Int):=by omega
    obtain ⟨d,hx⟩:∃ x,S.defs[q]? = some x:=⟨_,List.getElem?_eq_getElem hqn⟩
    have HPZ:=Hd (HZD.out d (List.mem_of_getElem? hx))
    obtain ⟨b,o,cs,rfl,hb,hc,hT⟩:=rowOf_at 6 defn_len HR.out hx
    have HBL:=Hd (Nat.lt_of_lt_of_le hb HB.out)
    obtain ⟨Af,kf,Ax,kx,Ap,kp,Am,km,rfl,hdn,_,_,_,hpl,hpr⟩:=defn_cells hT
    have x0:=(BX.out.cell (p:=⟨b,o+q*6,none⟩) HBL.out).trans (hc 0 _ rfl)
    have x1:=(BX.out.cell (p:=⟨b,o+q*6+1,none⟩) HBL.out).trans (hc 1 _ rfl)
    have x2:=(BX.out.cell (p:=⟨b,o+q*6+2,none⟩) HBL.out).trans (hc 2 _ rfl)
    have x3:=(BX.out.cell (p:=⟨b,o+q*6+3,none⟩) HBL.out).trans (hc 3 _ rfl)
    have x4:=(BX.out.cell (p:=⟨b,o+q*6+4,none⟩) HBL.out).trans (hc 4 _ rfl)
    have x5:=(BX.out.cell (p:=⟨b,o+q*6+5,none⟩) HBL.out).trans (hc 5 _ rfl)
    have HNT:=Hd (need_take hx)
    have HPR:=Hd hpr
    clear hx hb hc hT hpr
    go_upto_region 5 with fail
    clear x0 x1 x2 x3 x4 x5
    have bn:=dbelow_new wr (.cells #[.int .i64 d.kind,.string d.name,.slice Af d.faces.length kf,.slice Ax d.fields.length kx,.slice Ap d.parts.length kp,.slice Am d.params.length km] 37)
    have B2:=Hd (BX.out.trans (bn.mono BX.out.size))
    have YN:=Hd (heap_alloc_new wr (.cells #[.int .i64 d.kind,.string d.name,.slice Af d.faces.length kf,.slice Ax d.fields.length kx,.slice Ap d.parts.length kp,.slice Am d.params.length km] 37))
    have SN:=Hd ((bn.block _ (Array.getElem?_eq_some_iff.1 SX.out).1).trans SX.out)
    have XN:=Hd ((bn.block _ (Array.getElem?_eq_some_iff.1 XX.out).1).trans XX.out)
    have HG2:=Hd (HG0.out.keep (bn.block _ HG0.out.lt))
    have HE2:=Hd (HE0.out.keep (bn.block _ HE0.out.lt))
    have HL2:=Hd ((HLM.out.keep (bn.block _ HLM.out.lt) (.of_below bn (Nat.le_refl _))).more bn.size)
    have HS2:=Hd (Nat.le_trans HSZ.out bn.size)
    have HGD:Hid (gx < wr.heap.size):=Hd (Array.getElem?_eq_some_iff.1 XX.out).1
    generalize wr.alloc (.cells #[.int .i64 d.kind,.string d.name,.slice Af d.faces.length kf,.slice Ax d.fields.length kx,.slice Ap d.parts.length kp,.slice Am d.params.length km] 37)=v0 at B2 YN SN XN HG2 HE2 HL2 HS2 ⊢
    generalize wr.heap.size=gd at YN HGD ⊢
    clear bn BX SX XX HG0 HE0 HLM HSZ
    obtain ⟨⟨y0,y1,y2,y3,y4,y5⟩,_⟩:=six_cells YN.out
    cases ek:(d.kind == 5) with
    | false =>
      have HNE2:Hid (needL (S.defs.take (q+1))=needL (S.defs.take q)):=Hd (HNT.out.trans (if_neg (by rw [ek];decide)))
      go_wp2_with fail
      go_roundg g
      case measure=>omega
      case rel=>exact ⟨q+1,by omega,by go_num,Blk.Aside.intro ⟨by rw [HNE2.out];exact HL2.out.le (Nat.le_succ _),HG2.out,HE2.out,B2.out,SN.out,XN.out,HS2.out⟩⟩
    | true =>
      have HNE2:Hid (needL (S.defs.take (q+1))=updR (needL (S.defs.take q)) d.name (reqL d.params)):=Hd (HNT.out.trans (if_pos ek))
      go_upto_region 6 with fail
      clear y0 y1 y2 y3 y4 y5
      obtain ⟨D,m,hmm,hdd,hhh⟩:=HL2.out
      have HMM:=Hd hmm
      have HDD:=Hd hdd
      have HHH:=Hd hhh
      have RQ:=Hd (fun (wx:World) (hb:Below v0.heap.size v0 wx)=>required_any d.params Am km wx B (Nat.le_trans HB.out (Nat.le_trans B2.out.size hb.size)) HPZ.out (RowT.below ((B2.out.trans (hb.mono B2.out.size)).mono HB.out) HPR.out))
      have hkey:=WideMaps.keyOf_string_mk (P:=Tryz.prog) Tryz.underlying9 (s:=d.name) (by unfold maxLen;omega)
      have HMAX:q < maxLen:=by unfold maxLen;omega
      have HGB:Hid (w.heap.size≤lb∧lb ≠ gx∧lb ≠ gd):=Hd (by have h1:=HNUM.out;have h2:=HGD.out;omega)
      clear hmm hdd hhh
      have HLO:=Hd B2.out.size
      have HE:Hid (QL w.heap.size v0 [(gx,0,(Value.map (some lb))),(gd,1,(Value.string d.name)),(gd,5,(Value.slice Am d.params.length km))] v0):=Hd (by
        obtain ⟨⟨y0,y1,y2,y3,y4,y5⟩,_⟩:=six_cells YN.out
        obtain ⟨x0,x1,x2⟩:=three_cells XN.out
        refine ⟨fun p hp=>?_,Below.refl _ _⟩
        simp only [List.mem_cons,List.not_mem_nil,or_false] at hp
        rcases hp with rfl|rfl|rfl<;>assumption)
      have HLW:Hid (∀ p,p ∈ [(gx,0,(Value.map (some lb))),(gd,1,(Value.string d.name)),(gd,5,(Value.slice Am d.params.length km))]→p.1 < v0.heap.size):=Hd (fun p hp=>by
        have l1:=(Array.getElem?_eq_some_iff.1 YN.out).1
        have l2:=(Array.getElem?_eq_some_iff.1 XN.out).1
        simp only [List.mem_cons,List.not_mem_nil,or_false] at hp
        rcases hp with rfl|rfl|rfl<;>assumption)
      have HNE:Hid (∀ g,(some lb:Option Nat)=some g→w.heap.size≤g∧∀ p,p ∈ [(gx,0,(Value.map (some lb))),(gd,1,(Value.string d.name)),(gd,5,(Value.slice Am d.params.length km))]→p.1 ≠ g):=Hd (fun g hg=>by
        injection hg with hg
        subst hg
        have h1:=HGB.out
        refine ⟨h1.1,fun p hp=>?_⟩
        simp only [List.mem_cons,List.not_mem_nil,or_false] at hp
        rcases hp with rfl|rfl|rfl<;>(dsimp only;omega))
      refine wp_region_held_drew (S:=(fun w'=>w'.cell? ⟨gx,0,none⟩=some (Value.map (some lb))∧w'.cell? ⟨gd,1,none⟩=some (Value.string d.name)∧w'.cell? ⟨gd,5,none⟩=some (Value.slice Am d.params.length km)∧QL w.heap.size v0 [(gx,0,(Value.map (some lb))),(gd,1,(Value.string d.name)),(gd,5,(Value.slice Am d.params.length km))] w')) (by kernel_rfl) (q8_written (HE.out.full HLW.out HLO.out (Below.drew (Below.refl _ _)))) (fun hHeld=>?_)
      refine ztk 0 (v:=?_) ?_ (by assumption) ?_
      rotate_left
      · (intro w hSw;(try dsimp only at hSw);go_simp;try with_reducible rfl)
      try simp only [Act.put,zgA,zgB,stT,stZ,stS]
      refine ztk 1 (v:=?_) ?_ (by assumption) ?_
      rotate_left
      · (intro w hSw;(try dsimp only at hSw);go_simp;try with_reducible rfl)
      try simp only [Act.put,zgA,zgB,zgC,stT,stZ,stS]
      refine ztk 2 (v:=?_) ?_ (by assumption) ?_
      rotate_left
      · (intro w hSw;(try dsimp only at hSw);go_simp;try with_reducible rfl)
      try simp only [Act.put,zgA,zgB,zgC,stT,stZ,stS]
      refine ztk 3 (v:=?_) ?_ (by assumption) ?_
      rotate_left
      · (intro w hSw;(try dsimp only at hSw);go_simp;try with_reducible rfl)
      try simp only [Act.put,zgA,zgB,zgC,stT,stZ,stS]
      refine ztk 4 (v:=?_) ?_ (by assumption) ?_
      rotate_left
      · (intro w hSw;(try dsimp only at hSw);go_simp;try with_reducible rfl)
      try simp only [Act.put,zgA,zgB,zgC,stT,stZ,stS]
      refine ztk 5 (v:=?_) ?_ (by assumption) ?_
      rotate_left
      · (intro w hSw;(try dsimp only at hSw);go_simp;try with_reducible rfl)
      try simp only [Act.put,zgA,zgB,zgC,stT,stZ,stS]
      refine wpAnyH_ready (rs:=[6]) (by kernel_rfl) (by simp) ?_
      refine AllReadyH.cons (o:=_) rfl (fun K hK=>?_) AllReadyH.nil
      go_simp
      refine (RQ.out _ (Below.drew (Below.refl _ _))).mono ?_
      rintro e wc ⟨v,rfl,hsr,hb⟩
      have HFU:=Hd ((Below.drew (Below.refl _ _):Below v0.heap.size v0 _).trans (hb.mono (Below.drew (Below.refl _ _):Below v0.heap.size v0 _).size))
      have HBC:=Hd hb
      have HSR:=Hd hsr
      clear hb hsr
      go_wp2_with fail
      refine hK.out _ _ (q8_written (QL.full (q8_last (by assumption)) HLW.out HLO.out HBC.out)) (fun hHeld=>?_)
      clear hK K
      try simp only [Act.put,zgA,zgB,zgC,stT,stZ,stS]
      refine wpAnyH_ready (rs:=[7]) (by kernel_rfl) (by simp) ?_
      refine AllReadyH.cons (o:=_) rfl (fun K hK=>?_) AllReadyH.nil
      refine step_mapputV rfl _ _ _ 122 rfl 9 _ (Maps.string_keyed Tryz.underlying9) Tryz.underlying122 lb q D rfl (map_onV HMM.out HFU.out) HMAX _ _ _ rfl rfl hkey ?_
      intro w5 hm5 hg5
      have HM5:=Hd hm5
      have HG5:=Hd hg5
      clear hm5 hg5
      refine hK.out _ _ (q8_written (QL.grown (q8_last (by assumption)) HLW.out HNE.out HLO.out HG5.out)) (fun hHeld=>?_)
      clear hK K
      try simp only [Act.put,zgA,zgB,zgC]
      refine wpAnyH_done (by kernel_rfl) ?_ _
      clear hHeld
      have hxl:∀ b,X3 lb gb eb b→b < v0.heap.size:=fun b hb=>by
        have h1:=HXN.out b hb
        have h2:=(Array.getElem?_eq_some_iff.1 XN.out).1
        omega
      have hsc:=HFU.out.size
      have HV:=Hd (held_row HSR.out (fun b hb=>show b < v0.heap.size from hxl b hb) (req_size (fun p hp=>p8_tn HPR.out p hp)))
      have hkk:KeepN (X3 lb gb eb) wc.heap.size wc w5:=.of_grown HG5.out (Nat.le_refl _) (.inl (.inl rfl))
      have HL5:=Hd (LeftM.more (LeftM.put (N:=wc.heap.size) HDD.out (fun s=>((HHH.out s).on (.of_below HFU.out (Nat.le_refl _))).more hsc) hkk d.name v _ (HV.out.on hkk) HM5.out) HG5.out.size)
      have hne1:∀ b,lb ≠ b→(some b:Option Nat) ≠ some lb:=fun b h e=>h (by injection e with e;exact e.symm)
      have hnum:=HNUM.out
      have HG5':=Hd ((HG2.out.keep (HFU.out.block _ HG2.out.lt)).keep (HG5.out.block _ (Nat.lt_of_lt_of_le HG2.out.lt hsc) (hne1 gb (by omega))))
      have HE5':=Hd ((HE2.out.keep (HFU.out.block _ HE2.out.lt)).keep (HG5.out.block _ (Nat.lt_of_lt_of_le HE2.out.lt hsc) (hne1 eb (by omega))))
      have B5:=Hd (below_grown (B:=w.heap.size) (B2.out.trans (HFU.out.mono B2.out.size)) HG5.out (Nat.le_trans B2.out.size hsc) (fun b hb=>by injection hb with hb;omega))
      have S5:=Hd ((HG5.out.block _ (Nat.lt_of_lt_of_le (Array.getElem?_eq_some_iff.1 SN.out).1 hsc) (hne1 _ (by omega))).trans ((HFU.out.block _ (Array.getElem?_eq_some_iff.1 SN.out).1).trans SN.out))
      have X5:=Hd ((HG5.out.block _ (Nat.lt_of_lt_of_le (Array.getElem?_eq_some_iff.1 XN.out).1 hsc) (hne1 _ (by omega))).trans ((HFU.out.block _ (Array.getElem?_eq_some_iff.1 XN.out).1).trans XN.out))
      have HS5:=Hd (Nat.le_trans HS2.out (Nat.le_trans hsc HG5.out.size))
      clear HE HLW HNE HFU HBC YN HLO HGB B2 HG5 RQ hkk hne1 hxl hsc
      go_wp2_with fail
      go_roundg g
      case measure=>omega
      case rel=>exact ⟨q+1,by omega,by go_num,Blk.Aside.intro ⟨by rw [HNE2.out];exact HL5.out,HG5'.out,HE5'.out,B5.out,S5.out,X5.out,HS5.out⟩⟩
end Go.Proofs.YtaekdfcpbepepaaGreatDoor
