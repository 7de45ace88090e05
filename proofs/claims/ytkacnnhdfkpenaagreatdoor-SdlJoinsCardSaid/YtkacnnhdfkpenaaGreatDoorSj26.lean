/- The landed Type, whole. -/
import Derived.Test.YtkacnnhdfkpenaaGreatDoorSj19
import Derived.Test.YtkacnnhdfkpenaaGreatDoorSj25
set_option maxRecDepth 100000
set_option maxHeartbeats 8000000
namespace Go.Proofs.YtkacnnhdfkpenaaGreatDoor
open Go.RowKit
def tokB (ts:List (Int × List UInt8)):List Tok:=ts.map fun t=>(t.1,⟨t.2.toArray⟩)
theorem tokB_len (ts:List (Int × List UInt8)):(tokB ts).length=ts.length:=by simp [tokB]
theorem ptokVals_at:∀ (ts:List (Int × List UInt8)) (j:Nat) t,(tokB ts)[j]? = some t→(tokVals ts)[j*2]? = some (.int .i64 t.1)∧(tokVals ts)[j*2+1]? = some (.string t.2)
 | [],_,_,h=>by simp [tokB] at h
 | u :: ts,0,t,h=>by
   have:(u.1,(⟨u.2.toArray⟩:ByteArray))=t:=by simpa [tokB] using h
   subst this
   exact ⟨rfl,rfl⟩
 | u :: ts,j+1,t,h=>by
   obtain ⟨h0,h1⟩:=ptokVals_at ts j t (by simpa [tokB] using h)
   refine ⟨?_,?_⟩
   · rw [show (j+1)*2=j*2+2 by omega];simpa [tokVals] using h0
   · rw [show (j+1)*2+1=(j*2+1)+2 by omega];simpa [tokVals] using h1
theorem rd_start {w:World} {base:Nat} {A:Option Addr} {cap:Nat} {ts:List (Int × List UInt8)} (h:w.ownsRow base 52 2 (.slice A ts.length cap) ts.length (tokVals ts)) (hl:ts.length≤200000) {g:Nat} (hg:g=w.heap.size):Rd (w.alloc (.cells #[.slice A ts.length cap,.int .i64 0] 185)) g (tokB ts) 0:=by
 subst hg
 have hlt:=h.lt
 refine ⟨A,cap,by rw [tokB_len];exact heap_alloc_new _ _,?_,by rw [tokB_len];exact hl,fun j t ht=>?_⟩
 · rw [tokB_len]
   rcases h.2 with ⟨e,h0⟩|⟨g,c,cur,e,_,_,hc,_⟩
   · omega
   · injection e with _ _ e;omega
 · obtain ⟨h0,h1⟩:=ptokVals_at ts j t ht
   have hj:j < ts.length:=by have:=(List.getElem?_eq_some_iff.1 ht).1;rwa [tokB_len] at this
   rcases h.2 with ⟨e,hn⟩|⟨g,c,cur,e,_,_,_,_⟩
   · omega
   · injection e with e1 _ _
     subst e1
     have hgl:=(hlt g rfl).2
     refine ⟨g,0,rfl,hgl,?_,?_⟩
     · rw [Nat.zero_add,World.cell?_of_block (a:=⟨g,j*2,none⟩) (Below.heap_alloc _ _ _ hgl),h.cellAt _ (by omega)];exact h0
     · rw [Nat.zero_add,World.cell?_of_block (a:=⟨g,j*2+1,none⟩) (Below.heap_alloc _ _ _ hgl),h.cellAt _ (by omega)];exact h1
theorem one_box {w:World} {b:Nat} {z:Value} {t:TypeId} (h:w.heap[b]? = some (.cells #[z] t (0,0))):w.cell? ⟨b,0,none⟩=some z∧w.frozen? ⟨b,0,none⟩=false:=by
 refine ⟨?_,?_⟩
 · simp only [World.cell?,h];rfl
 · simp [World.frozen?,h]
theorem two_below' (w:World) (o o':Obj):Below w.heap.size w ((w.alloc o).alloc o'):=((Below.refl _ _).alloc (Nat.le_refl _) o).alloc (by simp) o'
theorem wrapped_any (ts:List Tok) (hN:NamesT ts) (r d:Nat) (w:World) (h:Rd w r ts d):Calls Tryz.prog 273 #[.pointer (some ⟨r,0,none⟩)] w fun e w'=>match typeR 4 ts with
   | .ok ((n,l,m),ts')=>e=.returned (.agg #[.string n,.int .i64 (l:Int),.int .i64 (m:Int)])∧Rd w' r ts' d∧Moved r w w'
   | .error x=>e=PanicE x∧Moved r w w':=by
 have HT:=fun wx (hb:Below w.heap.size w wx)=>Hd (typ_any 4 (Nat.le_refl _) ts hN r d wx (h.below hb))
 have hl:=h.lt
 have hb0:=Hd (blw w (.cells #[.string ⟨#[]⟩,.int .i64 0,.int .i64 0] 74))
 clear h
 cases ht:typeR 4 ts with
 | error x =>
   rw [ht] at HT
   show Calls _ _ _ _ fun e w'=>e=PanicE x∧Moved r w w'
   go_enter Tryz.func273,Tryz.ntmps273
   go_wp2_with fail
   refine (HT _ hb0.out).out.mono ?_
   rintro e w1 ⟨rfl,m1⟩
   exact ⟨rfl,rfl,(Moved.of_below hb0.out).trans m1⟩
 | ok p =>
   obtain ⟨⟨n,l,m⟩,ts1⟩:=p
   rw [ht] at HT
   show Calls _ _ _ _ fun e w'=>e=.returned (.agg #[.string n,.int .i64 (l:Int),.int .i64 (m:Int)])∧Rd w' r ts1 d∧Moved r w w'
   have hc0:=Hd (heap_alloc_last w (.cells #[.string ⟨#[]⟩,.int .i64 0,.int .i64 0] 74))
   go_enter Tryz.func273,Tryz.ntmps273
   go_wp2_with fail
   refine (HT _ hb0.out).out.mono ?_
   rintro e w1 ⟨rfl,r1,m1⟩
   have hc1:=m1.keep hc0.out (by omega)
   have C1:=Hd hc1
   have R1:=Hd (And.intro r1 m1)
   obtain ⟨k0,k1,k2,z0,z1,z2⟩:=ty_cells hc1
   clear r1 m1 hc1 HT
   go_wp2_with fail
   refine ret_tp rfl rfl rfl (ty_set C1.out) ⟨rfl,((R1.out.1.set hl).set hl).set hl,?_⟩
   exact ((((Moved.of_below hb0.out).trans R1.out.2).put (Nat.le_refl _)).put (Nat.le_refl _)).put (Nat.le_refl _)
theorem takeWhile_all (p:UInt8→Bool):∀ l:List UInt8,(l.takeWhile p).all p=true
 | []=>rfl
 | b :: t=>by
   rw [List.takeWhile_cons]
   split
   · rename_i h
     rw [List.all_cons,h,takeWhile_all p t];rfl
   · rfl
theorem word_name {l:List UInt8} (h:wordN l ≠ 0):nameB (l.take (wordN l))=true:=by
 cases l with
 | nil=>exact absurd rfl h
 | cons b t =>
   have e0:wordN (b :: t)=if letU b then 1+(t.takeWhile nameU).length else 0:=rfl
   rw [e0] at h ⊢
   split
   · rename_i hb
     rw [Nat.add_comm,List.take_succ_cons]
     have e:t.take (t.takeWhile nameU).length=t.takeWhile nameU:=(List.prefix_iff_eq_take.1 (List.takeWhile_prefix nameU)).symm
     rw [e]
     show (letB (b.toNat:Int) && tailB _)=true
     rw [show letB (b.toNat:Int)=true from hb,Bool.true_and]
     exact takeWhile_all nameU t
   · rename_i hb
     rw [if_neg hb] at h
     exact absurd rfl h
theorem tok_name {l:List UInt8} {x:List UInt8} {n:Nat} (h:tokL l=some ((2,x),n)):nameB x=true∧x.length≤l.length:=by
 unfold tokL at h
 split at h
 · cases h
 · split at h
   · rename_i hw
     have:=(Prod.mk.inj (Prod.mk.inj (Option.some.inj h)).1).2
     subst this
     exact ⟨word_name hw,by rw [List.length_take];omega⟩
   · split at h
     · rename_i hn
       have h2:=(Prod.mk.inj (Prod.mk.inj (Option.some.inj h)).1).1
       have hz:(nbL l).2=0∨(nbL l).2=3∨(nbL l).2=4:=by
        unfold nbL
        split
        · exact .inl rfl
        · split
          · exact .inl rfl
          · unfold nmL
            split
            · exact .inl rfl
            · simp only
              split
              · exact .inr (.inl rfl)
              · exact .inr (.inr rfl)
       omega
     · cases hq:quoteL l with
       | none=>rw [hq] at h;cases h
       | some q=>rw [hq] at h;cases h
theorem readF_names:∀ (n:Nat) (l:List UInt8) ts,readF n l=some ts→∀ t ∈ ts,t.1=2→nameB t.2=true∧t.2.length≤l.length
 | 0,_,_,h=>by cases h
 | n + 1, l, ts,h=>by
   rw [readF] at h
   split at h
   · intro t ht hk
     have:=readF_names n _ ts h t ht hk
     exact ⟨this.1,Nat.le_trans this.2 (by rw [List.length_drop];omega)⟩
   · split at h
     · cases h
       intro t ht;cases ht
     · cases hk:tokL l with
       | none=>rw [hk] at h;cases h
       | some p =>
         obtain ⟨⟨k,x⟩,m⟩:=p
         rw [hk] at h
         cases hr:readF n (l.drop m) with
         | none=>simp only [hr] at h;cases h
         | some us =>
           simp only [hr] at h
           have h:=Option.some.inj h
           subst h
           intro t ht h2
           rcases List.mem_cons.1 ht with e|e
           · subst e
             have h2:k=2:=h2
             subst h2
             exact tok_name hk
           · have:=readF_names n _ us hr t e h2
             exact ⟨this.1,Nat.le_trans this.2 (by rw [List.length_drop];omega)⟩
theorem read_names {s:ByteArray} {ts:List (Int × List UInt8)} (hs:s.size≤9000) (h:readL s.data.toList=some ts):NamesT (tokB ts):=by
 intro t ht hk
 unfold tokB at ht
 obtain ⟨u,hu,rfl⟩:=List.mem_map.1 ht
 have:=readF_names _ _ ts h u hu hk
 refine ⟨by simpa using this.1,?_⟩
 have h2:(⟨u.2.toArray⟩:ByteArray).size=u.2.length:=by rw [Lib.size_eq]
 have h3:s.data.toList.length=s.size:=Array.length_toList
 show (⟨u.2.toArray⟩:ByteArray).size≤9000
 omega
theorem whole_rd {w w2:World} {A:Option Addr} {cap:Nat} {ts:List (Int × List UInt8)} {v:Value} {B:Nat} (h:w2.ownsRow B 52 2 (.slice A ts.length cap) ts.length (tokVals ts)) (hl:ts.length≤200000) (hb:w.heap.size+2≤B) :
  Rd ((w2.setCell ⟨w.heap.size+1,0,none⟩ v).alloc (.cells #[.slice A ts.length cap,.int .i64 0] 185)) w2.heap.size (tokB ts) 0:=by
 have hk:(w2.setCell ⟨w.heap.size+1,0,none⟩ v).ownsRow B 52 2 (.slice A ts.length cap) ts.length (tokVals ts):=by
  refine World.ownsRow.kept h (Moved.set (r:=w.heap.size+1)) ?_
  cases e:(Value.slice A ts.length cap).ownBlock with
  | none=>exact .inl rfl
  | some k=>exact .inr (fun e'=>by have:=(h.lt k e).1;injection e' with e';omega)
 exact rd_start hk hl (by simp [World.setCell])
theorem whole_low {w w2 w3 w4:World} (h:Below w.heap.size w w2) (m:Moved (w.heap.size+1) w2 w3) (m':Moved w2.heap.size w3 w4) (hlt:w.heap.size+2≤w2.heap.size):Below w.heap.size w w4:=
 ⟨m'.os.trans (m.os.trans h.os),m'.tape.trans (m.tape.trans h.tape),m'.output.trans (m.output.trans h.output),Nat.le_trans h.size (Nat.le_trans m.size m'.size),fun k hk=>(m'.block k (by have:=m.size;omega) (fun e=>by injection e;omega)).trans ((m.block k (by omega) (fun e=>by injection e;omega)).trans (h.block k hk))⟩
def ArgB (r:Nat) (fx:Bool) (p1:Nat) (w:World):Prop:=w.heap[p1]? = some (.cells #[.bool fx] 4 (0,0))∧p1 ≠ r
theorem ArgB.moved {r:Nat} {fx:Bool} {p1:Nat} {w w':World} (h:ArgB r fx p1 w) (m:Moved r w w'):ArgB r fx p1 w':=⟨m.keep h.1 h.2,h.2⟩
def NoX (_r:Nat) (_w:World):Prop:=True
theorem NoX.moved {r:Nat} {w w':World} (_h:NoX r w) (_m:Moved r w w'):NoX r w':=trivial
theorem arg1_any (fx:Bool) (p1 d:Nat) (ts:List Tok) (r:Nat) (w:World) (hG:GoodD ts) (hd:d≤16) (hR:Rd w r ts d) (hK:KRd r w) (hX:ArgB r fx p1 w):Calls Tryz.prog 304 #[.pointer (some ⟨r,0,none⟩),.pointer (some ⟨p1,0,none⟩)] w (Post r d w (layS (fun p=>encMem p.1 p.2)) (memD fx d ts)):=by
 suffices H:∀ Q:Ending→World→Prop,(∀ e w',Post r d w (layS (fun p=>encMem p.1 p.2)) (memD fx d ts) e w'→Q e w')→Calls Tryz.prog 304 #[.pointer (some ⟨r,0,none⟩),.pointer (some ⟨p1,0,none⟩)] w Q from H _ (fun _ _ h=>h)
 intro Q hQ
 have HQ:=Hd hQ
 have K0:=Hd (S0.start hR hK #[.string ⟨#[]⟩,.int .i64 0,.int .i64 0,.string ⟨#[]⟩,.slice none 0 0,.slice none 0 0] 156)
 obtain ⟨q1,_⟩:=one_box ((blw w (.cells #[.string ⟨#[]⟩,.int .i64 0,.int .i64 0,.string ⟨#[]⟩,.slice none 0 0,.slice none 0 0] 156)).block p1 (Array.getElem?_eq_some_iff.1 hX.1).1 |>.trans hX.1)
 have HG:=Hd hG
 clear hQ hR hK hX hG
 go_enter Tryz.func304,Tryz.ntmps304
 go_wp2_with fail
 refine (mem_post fx d ts r _ HG.out hd K0.out.rd K0.out.k).mono ?_
 intro e w1 h
 cases hv:memD fx d ts with
 | error x =>
   rw [hv] at h
   obtain ⟨rfl,m⟩:=of_err h
   exact ⟨rfl,HQ.out _ _ (per hv (K0.out.mv.trans m))⟩
 | ok p =>
   obtain ⟨a,ts1⟩:=p
   rw [hv] at h
   obtain ⟨⟨v,rfl,hl⟩,r1,m1⟩:=of_ok h
   obtain ⟨s0,i1,i2,s3,A4,n4,k4,A5,n5,k5,rfl,hts⟩:=mem_open hl
   have K1:=Hd (K0.out.next r1 m1)
   have T1:=Hd (OvS.of hts K0.out.lt)
   obtain ⟨y0,y1,y2,y3,y4,y5,yz⟩:=six_cells K1.out.res
   have z0:=yz 0
   have z1:=yz 1
   have z2:=yz 2
   have z3:=yz 3
   have z4:=yz 4
   have z5:=yz 5
   have HV:=Hd hv
   clear r1 m1 hl hts h hv q1 yz
   go_wp2_with fail
   obtain ⟨f1,f2,f3⟩:=S0.fin (ys:=[.string ⟨#[]⟩,.int .i64 0,.int .i64 0,.string ⟨#[]⟩,.slice none 0 0,.slice none 0 0]) K1.out [.string s0,.int .i64 i1,.int .i64 i2,.string s3,.slice A4 n4 k4,.slice A5 n5 k5] rfl
   have FT:=T1.out.fin (w:=w) (Nat.le_refl _) [.string s0,.int .i64 i1,.int .i64 i2,.string s3,.slice A4 n4 k4,.slice A5 n5 k5]
   have FP:=HQ.out _ _ (post_ok HV.out ⟨_,rfl,FT⟩ f2 f3)
   exact ret_st rfl rfl rfl f1 Tryz.underlying156 ⟨_,rfl⟩ (by kernel_rfl) FP
theorem info_M:(Tryz.prog.info? 156).map (fun i=>(i.zero,i.size,i.bytes))=some (some (.agg #[.string ⟨#[]⟩,.int .i64 0,.int .i64 0,.string ⟨#[]⟩,.slice none 0 0,.slice none 0 0]),6,96):=by kernel_rfl
theorem serM_any (fx:Bool) (p1:Nat) (one:List Tok→Except Int ((ByteArray × VT) × List Tok)) (hS:∀ ts a r,one ts=.ok (a,r)→Sfx r ts) (r d:Nat) (ts:List Tok) (w:World)
  (HC:∀ tq wx,GoodD tq→tq.length≤ts.length→Rd wx r tq d→KRd r wx→ArgB r fx p1 wx→Calls Tryz.prog 304 #[.pointer (some ⟨r,0,none⟩),.pointer (some ⟨p1,0,none⟩)] wx (Post r d wx (layS (fun p=>encMem p.1 p.2)) (one tq)))
  (hG:GoodD ts) (hR:Rd w r ts d) (hK:KRd r w) (hX:ArgB r fx p1 w):Calls Tryz.prog 303 #[.pointer (some ⟨r,0,none⟩),.string cpB,.func (.func 304) #[] #[.pointer (some ⟨p1,0,none⟩)]] w (Post r d w (layR encM) (serR one addM cpB (ts.length+1) .nil ts)):=by
 suffices H:∀ Q:Ending→World→Prop,(∀ e w',Post r d w (layR encM) (serR one addM cpB (ts.length+1) .nil ts) e w'→Q e w')→Calls Tryz.prog 303 #[.pointer (some ⟨r,0,none⟩),.string cpB,.func (.func 304) #[] #[.pointer (some ⟨p1,0,none⟩)]] w Q from H _ (fun _ _ h=>h)
 intro Q hQ
 obtain ⟨ti0,hi,hz0,hz1,hz2⟩:=info_parts info_M
 obtain ⟨RES,hRES⟩:∃ RES,serR one addM cpB (ts.length+1) .nil ts=RES:=⟨_,rfl⟩
 rw [hRES] at hQ
 have HQ:=Hd hQ
 have HRES:=Hd hRES
 have HCC:=Hd HC
 have HSS:=Hd hS
 have hr:=hR.lt
 have hlen:ts.length≤200000:=by obtain ⟨_,_,_,_,h,_⟩:=hR;exact h
 have PL:=Hd (Array.getElem?_eq_some_iff.1 hX.1).1
 have B0:=Hd (And.intro hR (And.intro hK (And.intro hG hX)))
 clear hQ hRES HC hS hG hR hK hX
 go_enter Tryz.func303,Tryz.ntmps303
 go_wp2_with fail
 go_loopg [7] (ts.length+1) (fun g out wx=>∃ (acc:VM) (tq:List Tok),tq.length+1≤g∧tq.length≤ts.length∧(encM acc).len+tq.length≤200000∧Aside (RTr 156 6 w.heap.size wx out (encM acc)∧Moved r w wx∧Rd wx r tq d∧KRd r wx∧GoodD tq∧ArgB r fx p1 wx∧serR one addM cpB g acc tq=RES))
 case atStart=>exact ⟨.nil,ts,Nat.le_refl _,Nat.le_refl _,by rw [show (encM .nil).len=0 from (by rw [encM];rfl)];omega,vaside ⟨(by rw [encM];exact RTr.start _ _ _ _),Moved.refl _ _,B0.out.1,B0.out.2.1,B0.out.2.2.1,B0.out.2.2.2,HRES.out⟩⟩
 case round =>
  obtain ⟨acc,tq,hq,hql,hal,HA⟩:=hrel
  obtain ⟨hrt,hmx,hrx,hkx,hgx,hxx,hex⟩:=HA.out
  obtain ⟨xs,P,hown,hvals,hP⟩:=hrt
  obtain ⟨Ao,co,rfl⟩:=shape_own hown
  have KX:=Hd (And.intro hmx (And.intro hrx (And.intro hkx hxx)))
  have GX:=Hd hgx
  have EX:=Hd hex
  have HRT:=Hd (And.intro hown (And.intro hvals hP))
  clear HA hmx hrx hkx hgx hxx hex hown hvals hP
  cases gk with
  | zero=>omega
  | succ g =>
    go_wp2_with fail
    refine (HCC.out tq _ GX.out hql KX.out.2.1 KX.out.2.2.1 KX.out.2.2.2).mono ?_
    intro e w2 h
    cases hv:one tq with
    | error x =>
      rw [hv] at h
      obtain ⟨rfl,m⟩:=of_err h
      exact ⟨rfl,HQ.out _ _ (per (by rw [← EX.out,serR,hv]) (KX.out.1.trans m))⟩
    | ok p =>
      obtain ⟨a,tq2⟩:=p
      rw [hv] at h
      obtain ⟨⟨v,rfl,hl⟩,r2,m2⟩:=of_ok h
      obtain ⟨s0,i1,i2,s3,A4,n4,k4,A5,n5,k5,rfl,hts⟩:=mem_open hl
      have hsf:=HSS.out _ _ _ hv
      have hsl:=hsf.2
      have G2:=Hd (GX.out.sub hsf.1)
      have M2:=Hd m2
      have R2:=Hd r2
      have T2:=Hd hts
      have hs2:=m2.size
      have hs0:=KX.out.1.size
      have O2:=Hd (own_moved HRT.out.1 m2 hr)
      have HV:=Hd hv
      clear h hv hl hts r2 m2 hsf
      go_wp2_with (at_builtin;refine wpList_append_lies _ rfl _ _ 76 rfl w.heap.size 156 ti0 (.agg #[.string ⟨#[]⟩,.int .i64 0,.int .i64 0,.string ⟨#[]⟩,.slice none 0 0,.slice none 0 0]) 6 96 Tryz.underlying76 hi hz0 hz1 hz2 rfl (by decide) _ (encM acc).len xs rfl (own_low O2.out (blw _ _)) _ 1 1 [.string s0,.int .i64 i1,.int .i64 i2,.string s3,.slice A4 n4 k4,.slice A5 n5 k5] rfl rfl (fun j u hj=>World.news_of_block (heap_alloc_new _ _) j u hj) (by intro y hy;simp at hy;rcases hy with rfl|rfl|rfl|rfl|rfl|rfl<;>rfl) (by decide) (by unfold maxLen;omega) (by omega) (by simp;omega) _ rfl ?_;intro gg cap2 w4 hown4 hgrow hat hlt4;have HG4:=Hd hgrow;have HO4:=Hd hown4;have HT4:=Hd hat;clear hgrow hown4 hat)
      have hgk:=grown_keep HG4.out (r:=r) (fun b hb=>by have:=(HRT.out.1.lt b hb).1;omega)
      have R4:=Hd (hgk.1 _ _ (R2.out.below (blw _ _)))
      have D4:=Hd (hgk.2 ((KX.out.2.2.1.moved M2.out).moved (Moved.of_below (blw _ _))))
      have M4:=Hd (show Moved r w w4 from by
        have m:=(KX.out.1.trans M2.out).trans (Moved.of_below (blw _ (.cells #[.string s0,.int .i64 i1,.int .i64 i2,.string s3,.slice A4 n4 k4,.slice A5 n5 k5] 156)))
        exact ⟨HG4.out.os.trans m.os,HG4.out.tape.trans m.tape,HG4.out.output.trans m.output,Nat.le_trans m.size HG4.out.size,fun k hk hn=>(HG4.out.block k (Nat.lt_of_lt_of_le hk m.size) (fun e=>by have:=(HRT.out.1.lt k e.symm).1;omega)).trans (m.block k hk hn)⟩)
      have XA:=Hd ((KX.out.2.2.2.moved M2.out).moved (Moved.of_below (blw _ (.cells #[.string s0,.int .i64 i1,.int .i64 i2,.string s3,.slice A4 n4 k4,.slice A5 n5 k5] 156))))
      have hp1:=PL.out
      have X4:=Hd (show ArgB r fx p1 w4 from ⟨(HG4.out.block p1 (by have:=(Array.getElem?_eq_some_iff.1 XA.out.1).1;omega) (fun e=>by have:=(HRT.out.1.lt p1 e.symm).1;omega)).trans XA.out.1,XA.out.2⟩)
      have T4:=Hd (RTr.app hr (by omega) HRT.out.1 HRT.out.2.1 HRT.out.2.2 M2.out (TS.keep (fun _ hk=>⟨⟨hk.1,hk.2⟩,rfl⟩) _ _ T2.out) HO4.out HG4.out HT4.out)
      clear hgk
      go_wp2_with fail
      refine (skip_any r tq2 d 1 cpB _ R4.out).mono ?_
      intro e w5 h5
      have hE:=EX.out
      rw [serR,HV.out] at hE
      simp only at hE
      cases hb:atB 1 cpB tq2 with
      | true =>
        rw [hb] at h5 hE
        obtain ⟨rfl,r5,m5⟩:=h5
        rw [skip_yes hb] at r5
        simp only [if_true] at hE
        have T5:=Hd ((T4.out.moved m5 hr).fin (by rw [TrL.snoc_len];omega))
        have R5:=Hd r5
        have M5:=Hd (M4.out.trans m5)
        have E5:=Hd hE
        clear r5 m5 hE hb
        go_wp2_with fail
        exact HQ.out _ _ (post_ok E5.out.symm (show TP _ _ (.row (encM (addM acc a))) _ by rw [show encM (addM acc a)=(encM acc).snoc ((fun p=>encMem p.1 p.2) a) from encM_snoc _ _ _];exact T5.out) R5.out M5.out)
      | false =>
        rw [hb] at h5 hE
        obtain ⟨rfl,r5,m5⟩:=h5
        rw [skip_no hb] at r5
        simp only [Bool.false_eq_true,if_false] at hE
        have T5:=Hd (T4.out.moved m5 hr)
        have R5:=Hd r5
        have M5:=Hd (M4.out.trans m5)
        have X5:=Hd (X4.out.moved m5)
        have D5:=Hd (D4.out.moved m5)
        have E5:=Hd hE
        clear r5 m5 hE hb
        go_wp2_with fail
        go_roundg g
        case measure=>omega
        case rel=>exact ⟨addM acc a,tq2,by omega,by omega,by rw [show encM (addM acc a)=(encM acc).snoc ((fun p=>encMem p.1 p.2) a) from encM_snoc _ _ _,TrL.snoc_len];omega,vaside ⟨by rw [show encM (addM acc a)=(encM acc).snoc ((fun p=>encMem p.1 p.2) a) from encM_snoc _ _ _];exact T5.out,M5.out,R5.out,D5.out,G2.out,X5.out,E5.out⟩⟩
end Go.Proofs.YtkacnnhdfkpenaaGreatDoor
