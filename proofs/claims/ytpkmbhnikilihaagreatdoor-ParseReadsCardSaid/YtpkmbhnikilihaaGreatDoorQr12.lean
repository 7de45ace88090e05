/- The landed Type, whole. -/
import Derived.Test.YtpkmbhnikilihaaGreatDoorQr11
import Derived.Deep.Cut
set_option maxRecDepth 100000
set_option maxHeartbeats 8000000
namespace Go.Proofs.YtpkmbhnikilihaaGreatDoor
open Go.RowKit
def Lj (ts:List (Int × List UInt8)):List Tok:=ts.map fun t=>(t.1,⟨t.2.toArray⟩)
theorem U5 (ts:List (Int × List UInt8)):(Lj ts).length=ts.length:=by simp [Lj]
theorem Cc:∀ (ts:List (Int × List UInt8)) (j:Nat) t,(Lj ts)[j]? = some t→(X7 ts)[j*2]? = some (.int .i64 t.1)∧(X7 ts)[j*2+1]? = some (.string t.2)
 | [],_,_,h=>by simp [Lj] at h
 | u :: ts,0,t,h=>by
   have:(u.1,(⟨u.2.toArray⟩:ByteArray))=t:=by simpa [Lj] using h
   subst this
   exact ⟨rfl,rfl⟩
 | u :: ts,j+1,t,h=>by
   obtain ⟨h0,h1⟩:=Cc ts j t (by simpa [Lj] using h)
   refine ⟨?_,?_⟩
   · rw [show (j+1)*2=j*2+2 by omega];simpa [X7] using h0
   · rw [show (j+1)*2+1=(j*2+1)+2 by omega];simpa [X7] using h1
theorem Ygj {w:World} {base:Nat} {A:Option Addr} {cap:Nat} {ts:List (Int × List UInt8)} (h:w.ownsRow base 70 2 (.slice A ts.length cap) ts.length (X7 ts)) (hl:ts.length≤200000) {g:Nat} (hg:g=w.heap.size):Rd (w.alloc (.cells #[.slice A ts.length cap,.int .i64 0] 147)) g (Lj ts) 0:=by
 subst hg
 have hlt:=h.lt
 refine ⟨A,cap,by rw [U5];exact heap_alloc_new _ _,?_,by rw [U5];exact hl,fun j t ht=>?_⟩
 · rw [U5]
   rcases h.2 with ⟨e,h0⟩|⟨g,c,cur,e,_,_,hc,_⟩
   · omega
   · injection e with _ _ e;omega
 · obtain ⟨h0,h1⟩:=Cc ts j t ht
   have hj:j < ts.length:=by have:=(List.getElem?_eq_some_iff.1 ht).1;rwa [U5] at this
   rcases h.2 with ⟨e,hn⟩|⟨g,c,cur,e,_,_,_,_⟩
   · omega
   · injection e with e1 _ _
     subst e1
     have hgl:=(hlt g rfl).2
     refine ⟨g,0,rfl,hgl,?_,?_⟩
     · rw [Nat.zero_add,World.cell?_of_block (a:=⟨g,j*2,none⟩) (Below.heap_alloc _ _ _ hgl),h.cellAt _ (by omega)];exact h0
     · rw [Nat.zero_add,World.cell?_of_block (a:=⟨g,j*2+1,none⟩) (Below.heap_alloc _ _ _ hgl),h.cellAt _ (by omega)];exact h1
theorem Ys {w:World} {b:Nat} {z:Value} {t:TypeId} (h:w.heap[b]? = some (.cells #[z] t (0,0))):w.cell? ⟨b,0,none⟩=some z∧w.frozen? ⟨b,0,none⟩=false:=by
 refine ⟨?_,?_⟩
 · simp only [World.cell?,h];rfl
 · simp [World.frozen?,h]
theorem Xf (w:World) (o o':Obj):Below w.heap.size w ((w.alloc o).alloc o'):=((Below.refl _ _).alloc (Nat.le_refl _) o).alloc (by simp) o'
theorem Zzq (ts:List Tok) (hN:Ih ts) (r d:Nat) (w:World) (h:Rd w r ts d):Calls Tryz.prog 53 #[.pointer (some ⟨r,0,none⟩)] w fun e w'=>match Zl 4 ts with
   | .ok ((n,l,m),ts')=>e=.returned (.agg #[.string n,.int .i64 (l:Int),.int .i64 (m:Int)])∧Rd w' r ts' d∧Z0 r w w'
   | .error x=>e=Y5 x∧Z0 r w w':=by
 have HT:=fun wx (hb:Below w.heap.size w wx)=>Hd (Yih 4 (Nat.le_refl _) ts hN r d wx (h.below hb))
 have hl:=h.lt
 have hb0:=Hd (blw w (.cells #[.string ⟨#[]⟩,.int .i64 0,.int .i64 0] 39))
 clear h
 cases ht:Zl 4 ts with
 | error x =>
   rw [ht] at HT
   show Calls _ _ _ _ fun e w'=>e=Y5 x∧Z0 r w w'
   go_enter Tryz.func53,Tryz.ntmps53
   go_wp2_with fail
   refine (HT _ hb0.out).out.mono ?_
   rintro e w1 ⟨rfl,m1⟩
   exact ⟨rfl,rfl,(Z0.of_below hb0.out).trans m1⟩
 | ok p =>
   obtain ⟨⟨n,l,m⟩,ts1⟩:=p
   rw [ht] at HT
   show Calls _ _ _ _ fun e w'=>e=.returned (.agg #[.string n,.int .i64 (l:Int),.int .i64 (m:Int)])∧Rd w' r ts1 d∧Z0 r w w'
   have hc0:=Hd (heap_alloc_last w (.cells #[.string ⟨#[]⟩,.int .i64 0,.int .i64 0] 39))
   go_enter Tryz.func53,Tryz.ntmps53
   go_wp2_with fail
   refine (HT _ hb0.out).out.mono ?_
   rintro e w1 ⟨rfl,r1,m1⟩
   have hc1:=m1.keep hc0.out (by omega)
   have C1:=Hd hc1
   have R1:=Hd (And.intro r1 m1)
   obtain ⟨k0,k1,k2,z0,z1,z2⟩:=Zn hc1
   clear r1 m1 hc1 HT
   go_wp2_with fail
   refine Sh rfl rfl rfl (D7 C1.out) ⟨rfl,((R1.out.1.set hl).set hl).set hl,?_⟩
   exact ((((Z0.of_below hb0.out).trans R1.out.2).put (Nat.le_refl _)).put (Nat.le_refl _)).put (Nat.le_refl _)
theorem Wf (p:UInt8→Bool):∀ l:List UInt8,(l.takeWhile p).all p=true
 | []=>rfl
 | b :: t=>by
   rw [List.takeWhile_cons]
   split
   · rename_i h
     rw [List.all_cons,h,Wf p t];rfl
   · rfl
theorem T6 {l:List UInt8} (h:Ji l ≠ 0):Uk (l.take (Ji l))=true:=by
 cases l with
 | nil=>exact absurd rfl h
 | cons b t =>
   have e0:Ji (b :: t)=if Wj b then 1+(t.takeWhile If).length else 0:=rfl
   rw [e0] at h ⊢
   split
   · rename_i hb
     rw [Nat.add_comm,List.take_succ_cons]
     have e:t.take (t.takeWhile If).length=t.takeWhile If:=(List.prefix_iff_eq_take.1 (List.takeWhile_prefix If)).symm
     rw [e]
     show (Qw (b.toNat:Int) && Og _)=true
     rw [show Qw (b.toNat:Int)=true from hb,Bool.true_and]
     exact Wf If t
   · rename_i hb
     rw [if_neg hb] at h
     exact absurd rfl h
theorem Yf5 {l:List UInt8} {x:List UInt8} {n:Nat} (h:Lb l=some ((2,x),n)):Uk x=true∧x.length≤l.length:=by
 unfold Lb at h
 split at h
 · cases h
 · split at h
   · rename_i hw
     have:=(Prod.mk.inj (Prod.mk.inj (Option.some.inj h)).1).2
     subst this
     exact ⟨T6 hw,by rw [List.length_take];omega⟩
   · split at h
     · rename_i hn
       have h2:=(Prod.mk.inj (Prod.mk.inj (Option.some.inj h)).1).1
       have hz:(nbL l).2=0∨(nbL l).2=3∨(nbL l).2=4:=by
        unfold nbL
        split
        · exact .inl rfl
        · split
          · exact .inl rfl
          · unfold nmL
            split
            · exact .inl rfl
            · simp only
              split
              · exact .inr (.inl rfl)
              · exact .inr (.inr rfl)
       omega
     · cases hq:Xq l with
       | none=>rw [hq] at h;cases h
       | some q=>rw [hq] at h;cases h
theorem C8 : ∀ (n:Nat) (l:List UInt8) ts,Iz n l=some ts→∀ t ∈ ts,t.1=2→Uk t.2=true∧t.2.length≤l.length
 | 0,_,_,h=>by cases h
 | n + 1, l, ts,h=>by
   rw [Iz] at h
   split at h
   · intro t ht hk
     have:=C8 n _ ts h t ht hk
     exact ⟨this.1,Nat.le_trans this.2 (by rw [List.length_drop];omega)⟩
   · split at h
     · cases h
       intro t ht;cases ht
     · cases hk:Lb l with
       | none=>rw [hk] at h;cases h
       | some p =>
         obtain ⟨⟨k,x⟩,m⟩:=p
         rw [hk] at h
         cases hr:Iz n (l.drop m) with
         | none=>simp only [hr] at h;cases h
         | some us =>
           simp only [hr] at h
           have h:=Option.some.inj h
           subst h
           intro t ht h2
           rcases List.mem_cons.1 ht with e|e
           · subst e
             have h2:k=2:=h2
             subst h2
             exact Yf5 hk
           · have:=C8 n _ us hr t e h2
             exact ⟨this.1,Nat.le_trans this.2 (by rw [List.length_drop];omega)⟩
theorem Zv4 {s:ByteArray} {ts:List (Int × List UInt8)} (hs:s.size≤9000) (h:Uc s.data.toList=some ts):Ih (Lj ts):=by
 intro t ht hk
 unfold Lj at ht
 obtain ⟨u,hu,rfl⟩:=List.mem_map.1 ht
 have:=C8 _ _ ts h u hu hk
 refine ⟨by simpa using this.1,?_⟩
 have h2:(⟨u.2.toArray⟩:ByteArray).size=u.2.length:=by rw [Lib.size_eq]
 have h3:s.data.toList.length=s.size:=Array.length_toList
 show (⟨u.2.toArray⟩:ByteArray).size≤9000
 omega
theorem En {w w2:World} {A:Option Addr} {cap:Nat} {ts:List (Int × List UInt8)} {v:Value} {B:Nat} (h:w2.ownsRow B 70 2 (.slice A ts.length cap) ts.length (X7 ts)) (hl:ts.length≤200000) (hb:w.heap.size+2≤B) :
  Rd ((w2.setCell ⟨w.heap.size+1,0,none⟩ v).alloc (.cells #[.slice A ts.length cap,.int .i64 0] 147)) w2.heap.size (Lj ts) 0:=by
 have hk:(w2.setCell ⟨w.heap.size+1,0,none⟩ v).ownsRow B 70 2 (.slice A ts.length cap) ts.length (X7 ts):=by
  refine World.ownsRow.kept h (Z0.set (r:=w.heap.size+1)) ?_
  cases e:(Value.slice A ts.length cap).ownBlock with
  | none=>exact .inl rfl
  | some k=>exact .inr (fun e'=>by have:=(h.lt k e).1;injection e' with e';omega)
 exact Ygj hk hl (by simp [World.setCell])
theorem Ye {w w2 w3 w4:World} (h:Below w.heap.size w w2) (m:Z0 (w.heap.size+1) w2 w3) (m':Z0 w2.heap.size w3 w4) (hlt:w.heap.size+2≤w2.heap.size):Below w.heap.size w w4:=
 ⟨m'.os.trans (m.os.trans h.os),m'.tape.trans (m.tape.trans h.tape),m'.output.trans (m.output.trans h.output),Nat.le_trans h.size (Nat.le_trans m.size m'.size),fun k hk=>(m'.block k (by have:=m.size;omega) (fun e=>by injection e;omega)).trans ((m.block k (by omega) (fun e=>by injection e;omega)).trans (h.block k hk))⟩
def Yea (r:Nat) (fx:Bool) (p0 p1:Nat) (w:World):Prop:=w.heap[p0]? = some (.cells #[.pointer (some ⟨r,0,none⟩)] 76 (0,0))∧w.heap[p1]? = some (.cells #[.bool fx] 4 (0,0))∧p0 ≠ r∧p1 ≠ r
theorem Yea.moved {r:Nat} {fx:Bool} {p0 p1:Nat} {w w':World} (h:Yea r fx p0 p1 w) (m:Z0 r w w'):Yea r fx p0 p1 w':=⟨m.keep h.1 h.2.2.1,m.keep h.2.1 h.2.2.2,h.2.2⟩
def NoX (_r:Nat) (_w:World):Prop:=True
theorem NoX.moved {r:Nat} {w w':World} (_h:NoX r w) (_m:Z0 r w w'):NoX r w':=trivial
theorem Yec (fx:Bool) (p0 p1 d:Nat) (ts:List Tok) (r:Nat) (w:World) (hG:Xb ts) (hd:d≤16) (hR:Rd w r ts d) (hK:KRd r w) (hX:Yea r fx p0 p1 w):Calls Tryz.prog 268 #[.pointer (some ⟨p0,0,none⟩),.pointer (some ⟨p1,0,none⟩)] w (L8 r d w (Gt (fun p=>Gu p.1 p.2)) (Cy fx d ts)):=by
 refine cQE (fun Q hQ=>?_)
 have HQ:=Hd hQ
 have K0:=Hd (S0.start hR hK #[.string ⟨#[]⟩,.int .i64 0,.int .i64 0,.string ⟨#[]⟩,.slice none 0 0,.slice none 0 0] 98)
 obtain ⟨q0,_⟩:=Ys ((blw w (.cells #[.string ⟨#[]⟩,.int .i64 0,.int .i64 0,.string ⟨#[]⟩,.slice none 0 0,.slice none 0 0] 98)).block p0 (Array.getElem?_eq_some_iff.1 hX.1).1 |>.trans hX.1)
 obtain ⟨q1,_⟩:=Ys ((blw w (.cells #[.string ⟨#[]⟩,.int .i64 0,.int .i64 0,.string ⟨#[]⟩,.slice none 0 0,.slice none 0 0] 98)).block p1 (Array.getElem?_eq_some_iff.1 hX.2.1).1 |>.trans hX.2.1)
 have HG:=Hd hG
 clear hQ hR hK hX hG
 go_enter Tryz.func268,Tryz.ntmps268
 go_wp2_with fail
 refine (Yfc fx d ts r _ HG.out hd K0.out.rd K0.out.k).mono ?_
 intro e w1 h
 cases hv:Cy fx d ts with
 | error x =>
   rw [hv] at h
   obtain ⟨rfl,m⟩:=Yr h
   exact ⟨rfl,HQ.out _ _ (per hv (K0.out.mv.trans m))⟩
 | ok p =>
   obtain ⟨a,ts1⟩:=p
   rw [hv] at h
   obtain ⟨⟨v,rfl,hl⟩,r1,m1⟩:=Jh h
   obtain ⟨s0,i1,i2,s3,A4,n4,k4,A5,n5,k5,rfl,hts⟩:=Zk2 hl
   have K1:=Hd (K0.out.next r1 m1)
   have T1:=Hd (OvS.of hts K0.out.lt)
   obtain ⟨y0,y1,y2,y3,y4,y5,yz⟩:=Zq0 K1.out.res
   have z0:=yz 0
   have z1:=yz 1
   have z2:=yz 2
   have z3:=yz 3
   have z4:=yz 4
   have z5:=yz 5
   have HV:=Hd hv
   clear r1 m1 hl hts h hv q0 q1 yz
   go_wp2_with fail
   obtain ⟨f1,f2,f3⟩:=S0.fin (ys:=[.string ⟨#[]⟩,.int .i64 0,.int .i64 0,.string ⟨#[]⟩,.slice none 0 0,.slice none 0 0]) K1.out [.string s0,.int .i64 i1,.int .i64 i2,.string s3,.slice A4 n4 k4,.slice A5 n5 k5] rfl
   have FT:=T1.out.fin (w:=w) (Nat.le_refl _) [.string s0,.int .i64 i1,.int .i64 i2,.string s3,.slice A4 n4 k4,.slice A5 n5 k5]
   have FP:=HQ.out _ _ (X6 HV.out ⟨_,rfl,FT⟩ f2 f3)
   exact Y8 rfl rfl rfl f1 Tryz.underlying98 ⟨_,rfl⟩ (by kernel_rfl) FP
theorem Ylt:(Tryz.prog.info? 98).map (fun i=>(i.zero,i.size,i.bytes))=some (some (.agg #[.string ⟨#[]⟩,.int .i64 0,.int .i64 0,.string ⟨#[]⟩,.slice none 0 0,.slice none 0 0]),6,96):=by kernel_rfl
theorem Yg8 (fx:Bool) (p0 p1:Nat) (one:List Tok→Except Int ((ByteArray × VT) × List Tok)) (hS:∀ ts a r,one ts=.ok (a,r)→Sfx r ts) (r d:Nat) (ts:List Tok) (w:World)
  (HC:∀ tq wx,Xb tq→tq.length≤ts.length→Rd wx r tq d→KRd r wx→Yea r fx p0 p1 wx→Calls Tryz.prog 268 #[.pointer (some ⟨p0,0,none⟩),.pointer (some ⟨p1,0,none⟩)] wx (L8 r d wx (Gt (fun p=>Gu p.1 p.2)) (one tq)))
  (hG:Xb ts) (hR:Rd w r ts d) (hK:KRd r w) (hX:Yea r fx p0 p1 w):Calls Tryz.prog 267 #[.pointer (some ⟨r,0,none⟩),.string cpB,.func (.func 268) #[] #[.pointer (some ⟨p0,0,none⟩),.pointer (some ⟨p1,0,none⟩)]] w (L8 r d w (Zxh Jf) (El one Zq8 cpB (ts.length+1) .nil ts)):=by
 refine cQE (fun Q hQ=>?_)
 obtain ⟨ti0,hi,hz0,hz1,hz2⟩:=info_parts Ylt
 obtain ⟨RES,hRES⟩:∃ RES,El one Zq8 cpB (ts.length+1) .nil ts=RES:=⟨_,rfl⟩
 rw [hRES] at hQ
 have HQ:=Hd hQ
 have HRES:=Hd hRES
 have HCC:=Hd HC
 have HSS:=Hd hS
 have hr:=hR.lt
 have hlen:ts.length≤200000:=by obtain ⟨_,_,_,_,h,_⟩:=hR;exact h
 have PL:=Hd (And.intro (Array.getElem?_eq_some_iff.1 hX.1).1 (Array.getElem?_eq_some_iff.1 hX.2.1).1)
 have B0:=Hd (And.intro hR (And.intro hK (And.intro hG hX)))
 clear hQ hRES HC hS hG hR hK hX
 go_enter Tryz.func267,Tryz.ntmps267
 go_wp2_with fail
 go_loopg [7] (ts.length+1) (fun g out wx=>∃ (acc:VM) (tq:List Tok),tq.length+1≤g∧tq.length≤ts.length∧(Jf acc).len+tq.length≤200000∧Aside (RTr 98 6 w.heap.size wx out (Jf acc)∧Z0 r w wx∧Rd wx r tq d∧KRd r wx∧Xb tq∧Yea r fx p0 p1 wx∧El one Zq8 cpB g acc tq=RES))
 case atStart=>exact ⟨.nil,ts,Nat.le_refl _,Nat.le_refl _,by rw [show (Jf .nil).len=0 from (by rw [Jf];rfl)];omega,Zu ⟨(by rw [Jf];exact RTr.start _ _ _ _),Z0.refl _ _,B0.out.1,B0.out.2.1,B0.out.2.2.1,B0.out.2.2.2,HRES.out⟩⟩
 case round =>
  obtain ⟨acc,tq,hq,hql,hal,HA⟩:=hrel
  obtain ⟨hrt,hmx,hrx,hkx,hgx,hxx,hex⟩:=HA.out
  obtain ⟨xs,P,hown,hvals,hP⟩:=hrt
  obtain ⟨Ao,co,rfl⟩:=Yw hown
  have KX:=Hd (And.intro hmx (And.intro hrx (And.intro hkx hxx)))
  have GX:=Hd hgx
  have EX:=Hd hex
  have HRT:=Hd (And.intro hown (And.intro hvals hP))
  clear HA hmx hrx hkx hgx hxx hex hown hvals hP
  cases gk with
  | zero=>omega
  | succ g =>
    go_wp2_with fail
    refine (HCC.out tq _ GX.out hql KX.out.2.1 KX.out.2.2.1 KX.out.2.2.2).mono ?_
    intro e w2 h
    cases hv:one tq with
    | error x =>
      rw [hv] at h
      obtain ⟨rfl,m⟩:=Yr h
      exact ⟨rfl,HQ.out _ _ (per (by rw [← EX.out,El,hv]) (KX.out.1.trans m))⟩
    | ok p =>
      obtain ⟨a,tq2⟩:=p
      rw [hv] at h
      obtain ⟨⟨v,rfl,hl⟩,r2,m2⟩:=Jh h
      obtain ⟨s0,i1,i2,s3,A4,n4,k4,A5,n5,k5,rfl,hts⟩:=Zk2 hl
      have hsf:=HSS.out _ _ _ hv
      have hsl:=hsf.2
      have G2:=Hd (GX.out.sub hsf.1)
      have M2:=Hd m2
      have R2:=Hd r2
      have T2:=Hd hts
      have hs2:=m2.size
      have hs0:=KX.out.1.size
      have O2:=Hd (Xu HRT.out.1 m2 hr)
      have HV:=Hd hv
      clear h hv hl hts r2 m2 hsf
      go_wp2_with (at_builtin;refine wpList_append_lies _ rfl _ _ 33 rfl w.heap.size 98 ti0 (.agg #[.string ⟨#[]⟩,.int .i64 0,.int .i64 0,.string ⟨#[]⟩,.slice none 0 0,.slice none 0 0]) 6 96 Tryz.underlying33 hi hz0 hz1 hz2 rfl (by decide) _ (Jf acc).len xs rfl (Xn O2.out (blw _ _)) _ 1 1 [.string s0,.int .i64 i1,.int .i64 i2,.string s3,.slice A4 n4 k4,.slice A5 n5 k5] rfl rfl (fun j u hj=>World.news_of_block (heap_alloc_new _ _) j u hj) (by intro y hy;simp at hy;rcases hy with rfl|rfl|rfl|rfl|rfl|rfl<;>rfl) (by decide) (by unfold maxLen;omega) (by omega) (by simp;omega) _ rfl ?_;intro gg cap2 w4 hown4 hgrow hat hlt4;have HG4:=Hd hgrow;have HO4:=Hd hown4;have HT4:=Hd hat;clear hgrow hown4 hat)
      have hgk:=Jm HG4.out (r:=r) (fun b hb=>by have:=(HRT.out.1.lt b hb).1;omega)
      have R4:=Hd (hgk.1 _ _ (R2.out.below (blw _ _)))
      have D4:=Hd (hgk.2 ((KX.out.2.2.1.moved M2.out).moved (Z0.of_below (blw _ _))))
      have M4:=Hd (show Z0 r w w4 from by
        have m:=(KX.out.1.trans M2.out).trans (Z0.of_below (blw _ (.cells #[.string s0,.int .i64 i1,.int .i64 i2,.string s3,.slice A4 n4 k4,.slice A5 n5 k5] 98)))
        exact ⟨HG4.out.os.trans m.os,HG4.out.tape.trans m.tape,HG4.out.output.trans m.output,Nat.le_trans m.size HG4.out.size,fun k hk hn=>(HG4.out.block k (Nat.lt_of_lt_of_le hk m.size) (fun e=>by have:=(HRT.out.1.lt k e.symm).1;omega)).trans (m.block k hk hn)⟩)
      have XA:=Hd ((KX.out.2.2.2.moved M2.out).moved (Z0.of_below (blw _ (.cells #[.string s0,.int .i64 i1,.int .i64 i2,.string s3,.slice A4 n4 k4,.slice A5 n5 k5] 98))))
      have hp0:=PL.out.1
      have hp1:=PL.out.2
      have X4:=Hd (show Yea r fx p0 p1 w4 from ⟨(HG4.out.block p0 (by have:=(Array.getElem?_eq_some_iff.1 XA.out.1).1;omega) (fun e=>by have:=(HRT.out.1.lt p0 e.symm).1;omega)).trans XA.out.1,(HG4.out.block p1 (by have:=(Array.getElem?_eq_some_iff.1 XA.out.2.1).1;omega) (fun e=>by have:=(HRT.out.1.lt p1 e.symm).1;omega)).trans XA.out.2.1,XA.out.2.2⟩)
      have T4:=Hd (RTr.app hr (by omega) HRT.out.1 HRT.out.2.1 HRT.out.2.2 M2.out (TS.keep (fun _ hk=>⟨⟨hk.1,hk.2⟩,rfl⟩) _ _ T2.out) HO4.out HG4.out HT4.out)
      clear hgk
      go_wp2_with fail
      refine (Zv r tq2 d 1 cpB _ R4.out).mono ?_
      intro e w5 h5
      have hE:=EX.out
      rw [El,HV.out] at hE
      simp only at hE
      cases hb:atB 1 cpB tq2 with
      | true =>
        rw [hb] at h5 hE
        obtain ⟨rfl,r5,m5⟩:=h5
        rw [Jl hb] at r5
        simp only [if_true] at hE
        have T5:=Hd ((T4.out.moved m5 hr).fin (by rw [TrL.snoc_len];omega))
        have R5:=Hd r5
        have M5:=Hd (M4.out.trans m5)
        have E5:=Hd hE
        clear r5 m5 hE hb
        go_wp2_with fail
        exact HQ.out _ _ (X6 E5.out.symm (show TP _ _ (.row (Jf (Zq8 acc a))) _ by rw [show Jf (Zq8 acc a)=(Jf acc).snoc ((fun p=>Gu p.1 p.2) a) from Fl _ _ _];exact T5.out) R5.out M5.out)
      | false =>
        rw [hb] at h5 hE
        obtain ⟨rfl,r5,m5⟩:=h5
        rw [Vg hb] at r5
        simp only [Bool.false_eq_true,if_false] at hE
        have T5:=Hd (T4.out.moved m5 hr)
        have R5:=Hd r5
        have M5:=Hd (M4.out.trans m5)
        have X5:=Hd (X4.out.moved m5)
        have D5:=Hd (D4.out.moved m5)
        have E5:=Hd hE
        clear r5 m5 hE hb
        go_wp2_with fail
        go_roundg g
        case measure=>omega
        case rel=>exact ⟨Zq8 acc a,tq2,by omega,by omega,by rw [show Jf (Zq8 acc a)=(Jf acc).snoc ((fun p=>Gu p.1 p.2) a) from Fl _ _ _,TrL.snoc_len];omega,Zu ⟨by rw [show Jf (Zq8 acc a)=(Jf acc).snoc ((fun p=>Gu p.1 p.2) a) from Fl _ _ _];exact T5.out,M5.out,R5.out,D5.out,G2.out,X5.out,E5.out⟩⟩
def Yc9 {α:Type} (lay:World→(Nat→Prop)→α→Value→Prop):Prop:=∀ (w:World) (P P':Nat→Prop) (a:α) (v:Value),(∀ b,P b→P' b)→lay w P a v→lay w P' a v
theorem Ycb {α:Type} (enc:α→TrL):Yc9 (Zxh enc):=fun _ _ _ _ _ hP h=>TP.keep (fun b hb=>⟨hP b hb,rfl⟩) _ _ h
theorem Yko {α:Type} {r d:Nat} {w w1 w':World} {lay:World→(Nat→Prop)→α→Value→Prop} {R:Except Int (α × List Tok)} {e:Ending} (hl:Yc9 lay) (m:Z0 r w w1) (h:L8 r d w1 lay R e w'):L8 r d w lay R e w':=by
 cases R with
 | error x=>exact ⟨h.1,m.trans h.2⟩
 | ok p =>
   obtain ⟨a,ts'⟩:=p
   obtain ⟨⟨v,e1,h1⟩,h2,h3⟩:=Jh h
   exact ⟨⟨v,e1,hl _ _ _ _ _ (fun b hb=>⟨Nat.le_trans m.size hb.1,hb.2⟩) h1⟩,h2,m.trans h3⟩
theorem Jz (w:World) (o o':Obj):((w.alloc o).alloc o').heap[w.heap.size]? = some o∧((w.alloc o).alloc o').heap[w.heap.size+1]? = some o':=
 ⟨(Below.heap_alloc _ _ _ (by simp)).trans (heap_alloc_new _ _),heap_alloc2_new _ _ _⟩
theorem Zjv (fx:Bool) (d:Nat) (ts:List Tok) (r:Nat) (w:World) (hG:Xb ts) (hd:d≤16) (hR:Rd w r ts d) (hK:KRd r w):Calls Tryz.prog 233 #[.pointer (some ⟨r,0,none⟩),.bool fx] w (L8 r d w (Zxh Jf) (Ym fx d ts)):=by
 refine cQE (fun Q hQ=>?_)
 have HQ:=Hd hQ
 have hr:=hR.lt
 have B0:=Hd (Xf w (.cells #[.pointer (some ⟨r,0,none⟩)] 76) (.cells #[.bool fx] 4))
 have X0:=Hd (show Yea r fx w.heap.size (w.heap.size+1) _ from ⟨(Jz w (.cells #[.pointer (some ⟨r,0,none⟩)] 76) (.cells #[.bool fx] 4)).1,(Jz w (.cells #[.pointer (some ⟨r,0,none⟩)] 76) (.cells #[.bool fx] 4)).2,by omega,by omega⟩)
 have R0:=Hd (hR.below B0.out)
 have D0:=Hd (hK.moved (Z0.of_below B0.out))
 have HG:=Hd hG
 have M0:=Hd (Z0.of_below (r:=r) B0.out)
 obtain ⟨q0,_⟩:=Ys X0.out.1
 clear hQ hR hK hG
 go_enter Tryz.func233,Tryz.ntmps233
 go_wp2_with fail
 refine (Zv r ts d 1 opB _ R0.out).mono ?_
 intro e w1 h
 cases hb:atB 1 opB ts with
 | false =>
   rw [hb] at h
   obtain ⟨rfl,r1,m1⟩:=h
   rw [Vg hb] at r1
   have R1:=Hd (And.intro r1 (M0.out.trans m1))
   have HB:=Hd hb
   clear r1 m1 hb
   go_wp2_with fail
   exact HQ.out _ _ (X6 (by unfold Ym;rw [HB.out];rfl) (show TP _ _ (.row (Jf .nil)) _ by rw [Jf];exact TP.none _ _) R1.out.1 R1.out.2)
 | true =>
   rw [hb] at h
   obtain ⟨rfl,r1,m1⟩:=h
   rw [Jl hb] at r1
   have R1:=Hd (And.intro r1 (M0.out.trans m1))
   have X1:=Hd (X0.out.moved m1)
   have D1:=Hd (D0.out.moved m1)
   have HB:=Hd hb
   obtain ⟨q1,_⟩:=Ys X1.out.1
   clear r1 m1 hb q0
   go_wp2_with fail
   refine (Yg8 fx w.heap.size (w.heap.size+1) (Cy fx d) (fun _ _ _ h=>An h) r d ts.tail w1 (fun tq wx g _ hx hk hX=>Yec fx _ _ d tq r wx g hd hx hk hX) (HG.out.sub (Zf HB.out).1) R1.out.1 D1.out X1.out).mono ?_
   intro e w2 h
   have hA:Ym fx d ts=El (Cy fx d) Zq8 cpB (ts.tail.length+1) .nil ts.tail:=by unfold Ym;rw [HB.out];rfl
   rw [← hA] at h
   have h:=Yko (Ycb _) R1.out.2 h
   cases hv:Ym fx d ts with
   | error x =>
     rw [hv] at h
     obtain ⟨rfl,m⟩:=Yr h
     exact ⟨rfl,HQ.out _ _ (per hv m)⟩
   | ok p =>
     obtain ⟨l,ts1⟩:=p
     rw [hv] at h
     obtain ⟨⟨v,rfl,hl⟩,r2,m2⟩:=Jh h
     obtain ⟨A,c,rfl,hl2⟩:=Yx hl
     have F:=Hd (And.intro hl2 (And.intro r2 m2))
     have HV:=Hd hv
     clear h hv hl hl2 r2 m2 hA
     go_wp2_with fail
     exact HQ.out _ _ (X6 HV.out F.out.1 F.out.2.1 F.out.2.2)
theorem Ymi:(Tryz.prog.info? 178).map (fun i=>(i.zero,i.size,i.bytes))=some (some (.agg #[.string ⟨#[]⟩,.slice none 0 0]),2,40):=by kernel_rfl
theorem Yct {fx:Bool} {d g:Nat} {acc:List Lk} {ts:List Tok} (h:atB 1 Zqb ts=false):Gm fx d (g+1) acc ts=.ok (acc,ts):=by rw [Gm,if_neg (by rw [h];simp)]
theorem Yfx {fx:Bool} {d g:Nat} {acc:List Lk} {ts:List Tok} (h:atB 1 Zqb ts=true):Gm fx d (g+1) acc ts=(match Zb ts.tail with
 | none=>.error 2
 | some (n,r) =>
   match Ym fx d r with
   | .error x=>.error x
   | .ok (m,r2)=>Gm fx d g (acc++[(n,m)]) r2):=by rw [Gm,if_pos h];rfl
theorem Es (fx:Bool) (d:Nat) (ts:List Tok) (r:Nat) (w:World) (hG:Xb ts) (hd:d≤16) (hR:Rd w r ts d) (hK:KRd r w):Calls Tryz.prog 177 #[.pointer (some ⟨r,0,none⟩),.bool fx] w (L8 r d w (Zxh (Z5 Xc)) (Zp fx d ts)):=by
 refine cQE (fun Q hQ=>?_)
 obtain ⟨i0,hi,hz0,hz1,hz2⟩:=info_parts Ymi
 obtain ⟨RES,hRES⟩:∃ RES,Zp fx d ts=RES:=⟨_,rfl⟩
 rw [hRES] at hQ
 have HQ:=Hd hQ
 have HRES:=Hd hRES
 have hr:=hR.lt
 have hlen:ts.length≤200000:=by obtain ⟨_,_,_,_,h,_⟩:=hR;exact h
 have B0:=Hd (And.intro hR (And.intro hK hG))
 clear hQ hRES hG hR hK
 go_enter Tryz.func177,Tryz.ntmps177
 go_wp2_with fail
 go_loopg [5] (ts.length+1) (fun g out wx=>∃ (acc:List Lk) (tq:List Tok),tq.length+1≤g∧tq.length≤ts.length∧acc.length+tq.length≤200000∧Aside (RTr 178 2 w.heap.size wx out (Z5 Xc acc)∧Z0 r w wx∧Rd wx r tq d∧KRd r wx∧Xb tq∧Gm fx d g acc tq=RES))
 case atStart=>exact ⟨[],ts,Nat.le_refl _,Nat.le_refl _,by simpa using hlen,Zu ⟨RTr.start _ _ _ _,Z0.refl _ _,B0.out.1,B0.out.2.1,B0.out.2.2,HRES.out⟩⟩
 case round =>
  obtain ⟨acc,tq,hq,hql,hal,HA⟩:=hrel
  obtain ⟨hrt,hmx,hrx,hkx,hgx,hex⟩:=HA.out
  obtain ⟨Ao,co,rfl⟩:=hrt.shape
  have KX:=Hd (And.intro hmx (And.intro hrx hkx))
  have GX:=Hd hgx
  have EX:=Hd hex
  have HRT:=Hd hrt
  clear HA hmx hrx hkx hgx hex hrt
  cases gk with
  | zero=>omega
  | succ g =>
    go_wp2_with fail
    refine (Zv r tq d 1 Zqb _ KX.out.2.1).mono ?_
    intro e w1 h
    cases hb:atB 1 Zqb tq with
    | false =>
      rw [hb] at h
      obtain ⟨rfl,r1,m1⟩:=h
      rw [Vg hb] at r1
      have hE:=EX.out
      rw [Yct hb] at hE
      have T5:=Hd ((HRT.out.moved m1 hr).fin (by rw [Zt];omega))
      have R1:=Hd (And.intro r1 (KX.out.1.trans m1))
      have E5:=Hd hE
      clear r1 m1 hE hb
      go_wp2_with fail
      exact HQ.out _ _ (X6 E5.out.symm T5.out R1.out.1 R1.out.2)
    | true =>
      rw [hb] at h
      obtain ⟨rfl,r1,m1⟩:=h
      rw [Jl hb] at r1
      have hE:=EX.out
      rw [Yfx hb] at hE
      have G1:=Hd (GX.out.sub (Zf hb).1)
      have hl1:=(Zf hb).2
      have R1:=Hd (And.intro r1 m1)
      have E1:=Hd hE
      clear r1 m1 hE hb
      go_wp2_with fail
      refine (Yd r tq.tail d _ R1.out.1).mono ?_
      intro e w2 h
      cases hn:Zb tq.tail with
      | none =>
        rw [hn] at h
        obtain ⟨rfl,m⟩:=h
        have hE:=E1.out
        rw [hn] at hE
        exact ⟨rfl,HQ.out _ _ (per hE.symm ((KX.out.1.trans R1.out.2).trans m))⟩
      | some p =>
        obtain ⟨nm,tq2⟩:=p
        rw [hn] at h
        obtain ⟨rfl,r2,m2⟩:=h
        have hE:=E1.out
        rw [hn] at hE
        simp only at hE
        have G2:=Hd (G1.out.sub (Zc hn).1)
        have hl2:=(Zc hn).2
        have hnm:=Hd (G1.out.name hn)
        have R2:=Hd (And.intro r2 (R1.out.2.trans m2))
        have E2:=Hd hE
        clear r2 m2 hE hn
        go_wp2_with fail
        refine (Zjv fx d tq2 r _ G2.out hd R2.out.1 (KX.out.2.2.moved R2.out.2)).mono ?_
        intro e w3 h
        cases hv:Ym fx d tq2 with
        | error x =>
          rw [hv] at h
          obtain ⟨rfl,m⟩:=Yr h
          have hE:=E2.out
          rw [hv] at hE
          exact ⟨rfl,HQ.out _ _ (per hE.symm ((KX.out.1.trans R2.out.2).trans m))⟩
        | ok p =>
          obtain ⟨l,tq3⟩:=p
          rw [hv] at h
          obtain ⟨⟨v,rfl,hl⟩,r3,m3⟩:=Jh h
          obtain ⟨A,c,rfl,hl2'⟩:=Yx hl
          have hE:=E2.out
          rw [hv] at hE
          simp only at hE
          have hl3:=(Jk hv).length_le
          have G3:=Hd (G2.out.sub (Jk hv))
          have M3:=Hd (R2.out.2.trans m3)
          have R3:=Hd r3
          have E3:=Hd hE
          have T3:=Hd (TS.str hnm.out (TS.row (TP.keep (fun b hb=>⟨⟨Nat.le_trans R2.out.2.size hb.1,hb.2⟩,rfl⟩) _ _ hl2') (TS.nil _ _)):TS w3 (Zs wr w3) (Xc (nm,l)) [.string nm,.slice A (Jf l).len c])
          have hs3:=M3.out.size
          have hs0:=KX.out.1.size
          obtain ⟨xs,P,hown,hvals,hP⟩:=HRT.out
          have HOW:=Hd (And.intro hown (And.intro hvals hP))
          have O3:=Hd (Xu hown M3.out hr)
          clear h hv hl hl2' r3 m3 hE hown hvals hP
          go_wp2_with (at_builtin;refine wpList_append_lies _ rfl _ _ 66 rfl w.heap.size 178 i0 (.agg #[.string ⟨#[]⟩,.slice none 0 0]) 2 40 Tryz.underlying66 hi hz0 hz1 hz2 rfl (by decide) _ (Z5 Xc acc).len xs rfl (Xn O3.out (blw _ _)) _ 1 1 [.string nm,.slice A (Jf l).len c] rfl rfl (fun j u hj=>World.news_of_block (heap_alloc_new _ _) j u hj) (by intro y hy;simp at hy;rcases hy with rfl|rfl<;>rfl) (by decide) (by unfold maxLen;rw [Zt];omega) (by rw [Zt];omega) (by simp;omega) _ rfl ?_;intro gg cap2 w4 hown4 hgrow hat hlt4;have HG4:=Hd hgrow;have HO4:=Hd hown4;have HT4:=Hd hat;clear hgrow hown4 hat)
          have hgk:=Jm HG4.out (r:=r) (fun b hb=>by have:=(HOW.out.1.lt b hb).1;omega)
          have R4:=hgk.1 _ _ (R3.out.below (blw _ _))
          have D4:=hgk.2 ((KX.out.2.2.moved M3.out).moved (Z0.of_below (blw _ _)))
          have M4:Z0 r w w4:=by
           have m:=(KX.out.1.trans M3.out).trans (Z0.of_below (blw _ (.cells #[.string nm,.slice A (Jf l).len c] 178)))
           exact ⟨HG4.out.os.trans m.os,HG4.out.tape.trans m.tape,HG4.out.output.trans m.output,Nat.le_trans m.size HG4.out.size,fun k hk hn=>(HG4.out.block k (Nat.lt_of_lt_of_le hk m.size) (fun e=>by have:=(HOW.out.1.lt k e.symm).1;omega)).trans (m.block k hk hn)⟩
          have T4:=RTr.app hr (by omega) HOW.out.1 HOW.out.2.1 HOW.out.2.2 M3.out (TS.keep (fun _ hk=>⟨⟨hk.1,hk.2⟩,rfl⟩) _ _ T3.out) HO4.out HG4.out HT4.out
          go_roundg g
          case measure=>omega
          case rel=>exact ⟨acc++[(nm,l)],tq3,by omega,by omega,by rw [List.length_append];simp;omega,Zu ⟨by rw [Xa];exact T4,M4,R4,D4,G3.out,E3.out⟩⟩
theorem Ya6 (w:World) (P:Nat→Prop):TS w P (Lm Mj) [.int .i64 0,.int .i64 0,.string ⟨#[]⟩,.slice none 0 0,.slice none 0 0]:=Ycv _ _ _ _ _ _ (Qy w P 0 0 eB (Nat.zero_le _))
theorem Zq4 (d:Nat) (ts:List Tok) (r:Nat) (w:World) (hG:Xb ts) (hd:d≤16) (hR:Rd w r ts d) (hK:KRd r w):Calls Tryz.prog 176 #[.pointer (some ⟨r,0,none⟩)] w (L8 r d w (Gt Y7) (Gs d ts)):=by
 refine cQE (fun Q hQ=>?_)
 have HQ:=Hd hQ
 have K0:=Hd (S0.start hR hK #[.string ⟨#[]⟩,.string ⟨#[]⟩,.int .i64 0,.int .i64 0,.bool false,.int .i64 0,.int .i64 0,.string ⟨#[]⟩,.slice none 0 0,.slice none 0 0] 119)
 have G0:=Hd hG
 clear hQ hR hK hG
 go_enter Tryz.func176,Tryz.ntmps176
 go_wp2_with fail
 refine (Iq r ts d 1 X9 _ K0.out.rd).mono ?_
 intro e w1 h
 cases hb:atB 1 X9 ts with
 | false =>
   rw [hb] at h
   simp only [Bool.false_eq_true,if_false] at h
   obtain ⟨rfl,m⟩:=h
   exact ⟨rfl,HQ.out _ _ (per (by simp only [Gs,hb,if_false,Bool.false_eq_true]) (K0.out.mv.trans m))⟩
 | true =>
   rw [hb] at h
   simp only [if_true] at h
   obtain ⟨rfl,rr,mm⟩:=h
   have G2:=Hd (G0.out.sub (Zf hb).1)
   have E3:=Hd hb
   have K4:=Hd (K0.out.next rr mm)
   clear rr mm hb
   go_wp2_with fail
   refine (Yd r (ts.tail) d _ K4.out.rd).mono ?_
   intro e w5 h
   cases hn:Zb (ts.tail) with
   | none =>
     rw [hn] at h
     obtain ⟨rfl,m⟩:=h
     exact ⟨rfl,HQ.out _ _ (per (by simp only [Gs,E3.out,hn,if_true]) (K4.out.mv.trans m))⟩
   | some p =>
     obtain ⟨nm,tn5⟩:=p
     rw [hn] at h
     obtain ⟨rfl,rr,mm⟩:=h
     have Nnm:=Hd (G2.out.name hn)
     have G6:=Hd (G2.out.sub (Zc hn).1)
     have E7:=Hd hn
     have K8:=Hd (K4.out.next rr mm)
     clear rr mm hn
     go_wp2_with fail
     have K9:=Hd (S1.make K8.out #[.string nm,.string ⟨#[]⟩,.int .i64 0,.int .i64 0,.bool false,.int .i64 0,.int .i64 0,.string ⟨#[]⟩,.slice none 0 0,.slice none 0 0] 119)
     refine (Iq r tn5 d 1 Jq _ K9.out.rd).mono ?_
     intro e w10 h
     cases hb:atB 1 Jq tn5 with
     | false =>
       rw [hb] at h
       simp only [Bool.false_eq_true,if_false] at h
       obtain ⟨rfl,m⟩:=h
       exact ⟨rfl,HQ.out _ _ (per (by simp only [Gs,E3.out,E7.out,hb,if_true,if_false,Bool.false_eq_true]) (K9.out.mv.trans m))⟩
     | true =>
       rw [hb] at h
       simp only [if_true] at h
       obtain ⟨rfl,rr,mm⟩:=h
       have G11:=Hd (G6.out.sub (Zf hb).1)
       have E12:=Hd hb
       have K13:=Hd (K9.out.next rr mm)
       clear rr mm hb
       go_wp2_with fail
       refine (Zzq tn5.tail G11.out.2 r d _ K13.out.rd).mono ?_
       intro e w14 h
       cases hv:Zl 4 (tn5.tail) with
       | error x =>
         rw [hv] at h
         obtain ⟨rfl,m⟩:=id h
         exact ⟨rfl,HQ.out _ _ (per (by simp only [Gs,E3.out,E7.out,E12.out,hv,if_true]) (K13.out.mv.trans m))⟩
       | ok p =>
         obtain ⟨⟨tn,tl,tm⟩,tp14⟩:=p
         rw [hv] at h
         obtain ⟨rfl,rr,mm⟩:=h
         have NT:=Hd (Wu 4 _ G11.out.2 _ _ _ _ hv).2.1
         have G15:=Hd (G11.out.sub (Zqj 4 _ _ _ hv).1)
         have K16:=Hd (K13.out.next rr mm)
         have E17:=Hd hv
         clear rr mm hv
         obtain ⟨y0,y1,y2,y3,y4,y5,y6,y7,y8,y9,yz⟩:=J6 K16.out.loc
         have yf0:=yz 0
         have yf1:=yz 1
         have yf2:=yz 2
         have yf3:=yz 3
         have yf4:=yz 4
         have yf5:=yz 5
         have yf6:=yz 6
         have yf7:=yz 7
         have yf8:=yz 8
         have yf9:=yz 9
         clear yz
         go_wp2_with fail
         clear y0 y1 y2 y3 y4 y5 y6 y7 y8 y9 yf0 yf1 yf2 yf3 yf4 yf5 yf6 yf7 yf8 yf9
         have K18:Hid (S1 w r (((w14.setCell ⟨w5.heap.size,1,none⟩ (.string tn)).setCell ⟨w5.heap.size,2,none⟩ (.int .i64 (tl:Int))).setCell ⟨w5.heap.size,3,none⟩ (.int .i64 (tm:Int))) _ (w5.heap.size) (.cells #[.string nm,.string tn,.int .i64 (tl:Int),.int .i64 (tm:Int),.bool false,.int .i64 0,.int .i64 0,.string ⟨#[]⟩,.slice none 0 0,.slice none 0 0] 119 (0,0)) _ d):=Hd (((K16.out.put 1 (.string tn)).put 2 (.int .i64 (tl:Int))).put 3 (.int .i64 (tm:Int)))
         refine (Zv r tp14 d 1 eqB _ K18.out.rd).mono ?_
         intro e w19 h
         cases hb:atB 1 eqB tp14 with
         | true =>
           rw [hb] at h
           obtain ⟨rfl,rr,mm⟩:=h
           rw [Jl hb] at rr
           have G20:=Hd (G15.out.sub (Zf hb).1)
           have E21:=Hd hb
           have K22:=Hd (K18.out.next rr mm)
           clear rr mm hb
           obtain ⟨y0,y1,y2,y3,y4,y5,y6,y7,y8,y9,yz⟩:=J6 K22.out.loc
           have yf0:=yz 0
           have yf1:=yz 1
           have yf2:=yz 2
           have yf3:=yz 3
           have yf4:=yz 4
           have yf5:=yz 5
           have yf6:=yz 6
           have yf7:=yz 7
           have yf8:=yz 8
           have yf9:=yz 9
           clear yz
           go_wp2_with fail
           clear y0 y1 y2 y3 y4 y5 y6 y7 y8 y9 yf0 yf1 yf2 yf3 yf4 yf5 yf6 yf7 yf8 yf9
           have K23:Hid (S1 w r (w19.setCell ⟨w5.heap.size,4,none⟩ (.bool true)) _ (w5.heap.size) (.cells #[.string nm,.string tn,.int .i64 (tl:Int),.int .i64 (tm:Int),.bool true,.int .i64 0,.int .i64 0,.string ⟨#[]⟩,.slice none 0 0,.slice none 0 0] 119 (0,0)) _ d):=Hd (K22.out.put 4 (.bool true))
           refine (Zkh true d (tp14.tail) r _ G20.out hd K23.out.rd K23.out.k).mono ?_
           intro e w24 h
           cases hv:Uq true d (tp14.tail) with
           | error x =>
             rw [hv] at h
             obtain ⟨rfl,m⟩:=Yr h
             exact ⟨rfl,HQ.out _ _ (per (by simp only [Gs,E3.out,E7.out,E12.out,E17.out,E21.out,hv,if_true]) (K23.out.mv.trans m))⟩
           | ok p =>
             obtain ⟨v0,tp24⟩:=p
             rw [hv] at h
             obtain ⟨⟨v,rfl,hl⟩,rr,mm⟩:=Jh h
             obtain ⟨vk,vn,vs,A3,n3,k3,A4,n4,k4,rfl,hts⟩:=W4 hl
             have G25:=Hd (G20.out.sub (Pr hv).1)
             have K26:=Hd (K23.out.next rr mm)
             have O27:=Hd (OvS.of hts K23.out.blt)
             have E28:=Hd hv
             clear rr mm hv hl hts h
             obtain ⟨y0,y1,y2,y3,y4,y5,y6,y7,y8,y9,yz⟩:=J6 K26.out.loc
             have yf0:=yz 0
             have yf1:=yz 1
             have yf2:=yz 2
             have yf3:=yz 3
             have yf4:=yz 4
             have yf5:=yz 5
             have yf6:=yz 6
             have yf7:=yz 7
             have yf8:=yz 8
             have yf9:=yz 9
             clear yz
             go_upto_region 8 with fail
             clear y0 y1 y2 y3 y4 y5 y6 y7 y8 y9 yf0 yf1 yf2 yf3 yf4 yf5 yf6 yf7 yf8 yf9
             have K29:Hid (S1 w r (((((w24.setCell ⟨w5.heap.size,5,none⟩ (.int .i64 vk)).setCell ⟨w5.heap.size,6,none⟩ (.int .i64 vn)).setCell ⟨w5.heap.size,7,none⟩ (.string vs)).setCell ⟨w5.heap.size,8,none⟩ (.slice A3 n3 k3)).setCell ⟨w5.heap.size,9,none⟩ (.slice A4 n4 k4)) _ (w5.heap.size) (.cells #[.string nm,.string tn,.int .i64 (tl:Int),.int .i64 (tm:Int),.bool true,.int .i64 vk,.int .i64 vn,.string vs,.slice A3 n3 k3,.slice A4 n4 k4] 119 (0,0)) _ d):=Hd (((((K26.out.put 5 (.int .i64 vk)).put 6 (.int .i64 vn)).put 7 (.string vs)).put 8 (.slice A3 n3 k3)).put 9 (.slice A4 n4 k4))
             have O30:Hid (OvS (w5.heap.size) (((((w24.setCell ⟨w5.heap.size,5,none⟩ (.int .i64 vk)).setCell ⟨w5.heap.size,6,none⟩ (.int .i64 vn)).setCell ⟨w5.heap.size,7,none⟩ (.string vs)).setCell ⟨w5.heap.size,8,none⟩ (.slice A3 n3 k3)).setCell ⟨w5.heap.size,9,none⟩ (.slice A4 n4 k4)) _ _):=Hd (((((O27.out.put (i:=5) (v:=.int .i64 vk) (Nat.le_refl _)).put (i:=6) (v:=.int .i64 vn) (Nat.le_refl _)).put (i:=7) (v:=.string vs) (Nat.le_refl _)).put (i:=8) (v:=.slice A3 n3 k3) (Nat.le_refl _)).put (i:=9) (v:=.slice A4 n4 k4) (Nat.le_refl _))
             generalize (((((w24.setCell ⟨w5.heap.size,5,none⟩ (.int .i64 vk)).setCell ⟨w5.heap.size,6,none⟩ (.int .i64 vn)).setCell ⟨w5.heap.size,7,none⟩ (.string vs)).setCell ⟨w5.heap.size,8,none⟩ (.slice A3 n3 k3)).setCell ⟨w5.heap.size,9,none⟩ (.slice A4 n4 k4))=wz31 at K29 O30 ⊢
             obtain ⟨y0,y1,y2,y3,y4,y5,y6,y7,y8,y9,yz⟩:=J6 K29.out.loc
             have yf0:=yz 0
             have yf1:=yz 1
             have yf2:=yz 2
             have yf3:=yz 3
             have yf4:=yz 4
             have yf5:=yz 5
             have yf6:=yz 6
             have yf7:=yz 7
             have yf8:=yz 8
             have yf9:=yz 9
             clear yz
             obtain ⟨x0,x1,x2,x3,x4,x5,x6,x7,x8,x9,xz⟩:=J6 K29.out.res
             have xf0:=xz 0
             have xf1:=xz 1
             have xf2:=xz 2
             have xf3:=xz 3
             have xf4:=xz 4
             have xf5:=xz 5
             have xf6:=xz 6
             have xf7:=xz 7
             have xf8:=xz 8
             have xf9:=xz 9
             clear xz
             go_wp2_with fail
             clear y0 y1 y2 y3 y4 y5 y6 y7 y8 y9 yf0 yf1 yf2 yf3 yf4 yf5 yf6 yf7 yf8 yf9 x0 x1 x2 x3 x4 x5 x6 x7 x8 x9 xf0 xf1 xf2 xf3 xf4 xf5 xf6 xf7 xf8 xf9
             obtain ⟨f1,f2,f3⟩:=S1.fin (ys:=[.string ⟨#[]⟩,.string ⟨#[]⟩,.int .i64 0,.int .i64 0,.bool false,.int .i64 0,.int .i64 0,.string ⟨#[]⟩,.slice none 0 0,.slice none 0 0]) K29.out [.string nm,.string tn,.int .i64 (tl:Int),.int .i64 (tm:Int),.bool true,.int .i64 vk,.int .i64 vn,.string vs,.slice A3 n3 k3,.slice A4 n4 k4] rfl
             have Fv:=O30.out.fin (w:=w) (Nat.le_of_lt K29.out.bl) [.string nm,.string tn,.int .i64 (tl:Int),.int .i64 (tm:Int),.bool true,.int .i64 vk,.int .i64 vn,.string vs,.slice A3 n3 k3,.slice A4 n4 k4]
             have FP:=HQ.out _ _ (X6 (a:=⟨nm,tn,tl,tm,true,v0⟩) (by simp only [Gs,E3.out,E7.out,E12.out,E17.out,E21.out,E28.out,if_true]) ⟨[.string nm,.string tn,.int .i64 (tl:Int),.int .i64 (tm:Int),.bool true,.int .i64 vk,.int .i64 vn,.string vs,.slice A3 n3 k3,.slice A4 n4 k4],rfl,TS.str Nnm.out (TS.str NT.out (TS.int (TS.int (TS.bool Fv))))⟩ f2 f3)
             exact Y8 rfl rfl rfl f1 Tryz.underlying119 ⟨_,rfl⟩ (by kernel_rfl) FP
         | false =>
           rw [hb] at h
           obtain ⟨rfl,rr,mm⟩:=h
           rw [Vg hb] at rr
           have E32:=Hd hb
           have K33:=Hd (K18.out.next rr mm)
           clear rr mm hb
           obtain ⟨y0,y1,y2,y3,y4,y5,y6,y7,y8,y9,yz⟩:=J6 K33.out.loc
           have yf0:=yz 0
           have yf1:=yz 1
           have yf2:=yz 2
           have yf3:=yz 3
           have yf4:=yz 4
           have yf5:=yz 5
           have yf6:=yz 6
           have yf7:=yz 7
           have yf8:=yz 8
           have yf9:=yz 9
           clear yz
           obtain ⟨x0,x1,x2,x3,x4,x5,x6,x7,x8,x9,xz⟩:=J6 K33.out.res
           have xf0:=xz 0
           have xf1:=xz 1
           have xf2:=xz 2
           have xf3:=xz 3
           have xf4:=xz 4
           have xf5:=xz 5
           have xf6:=xz 6
           have xf7:=xz 7
           have xf8:=xz 8
           have xf9:=xz 9
           clear xz
           go_wp2_with fail
           clear y0 y1 y2 y3 y4 y5 y6 y7 y8 y9 yf0 yf1 yf2 yf3 yf4 yf5 yf6 yf7 yf8 yf9 x0 x1 x2 x3 x4 x5 x6 x7 x8 x9 xf0 xf1 xf2 xf3 xf4 xf5 xf6 xf7 xf8 xf9
           obtain ⟨f1,f2,f3⟩:=S1.fin (ys:=[.string ⟨#[]⟩,.string ⟨#[]⟩,.int .i64 0,.int .i64 0,.bool false,.int .i64 0,.int .i64 0,.string ⟨#[]⟩,.slice none 0 0,.slice none 0 0]) K33.out [.string nm,.string tn,.int .i64 (tl:Int),.int .i64 (tm:Int),.bool false,.int .i64 0,.int .i64 0,.string ⟨#[]⟩,.slice none 0 0,.slice none 0 0] rfl
           have FP:=HQ.out _ _ (X6 (a:=⟨nm,tn,tl,tm,false,Mj⟩) (by simp only [Gs,E3.out,E7.out,E12.out,E17.out,E32.out,if_true,if_false,Bool.false_eq_true]) ⟨[.string nm,.string tn,.int .i64 (tl:Int),.int .i64 (tm:Int),.bool false,.int .i64 0,.int .i64 0,.string ⟨#[]⟩,.slice none 0 0,.slice none 0 0],rfl,TS.str Nnm.out (TS.str NT.out (TS.int (TS.int (TS.bool (Ya6 _ _)))))⟩ f2 f3)
           exact Y8 rfl rfl rfl f1 Tryz.underlying119 ⟨_,rfl⟩ (by kernel_rfl) FP
theorem Ymn:(Tryz.prog.info? 119).map (fun i=>(i.zero,i.size,i.bytes))=some (some (.agg #[.string ⟨#[]⟩,.string ⟨#[]⟩,.int .i64 0,.int .i64 0,.bool false,.int .i64 0,.int .i64 0,.string ⟨#[]⟩,.slice none 0 0,.slice none 0 0]),10,136):=by kernel_rfl
theorem Yew (one:List Tok→Except Int ((Mw) × List Tok)) (hS:∀ ts a r,one ts=.ok (a,r)→Sfx r ts) (r d:Nat) (ts:List Tok) (w:World)
  (HC:∀ tq wx,Xb tq→tq.length≤ts.length→Rd wx r tq d→KRd r wx→NoX r wx→Calls Tryz.prog 176 #[.pointer (some ⟨r,0,none⟩)] wx (L8 r d wx (Gt Y7) (one tq)))
  (hG:Xb ts) (hR:Rd w r ts d) (hK:KRd r w) (hX:NoX r w):Calls Tryz.prog 175 #[.pointer (some ⟨r,0,none⟩),.string cpB,.func (.func 176) #[.pointer (some ⟨r,0,none⟩)] #[]] w (L8 r d w (Zxh (Z5 Y7)) (El one Zqu cpB (ts.length+1) [] ts)):=by
 refine cQE (fun Q hQ=>?_)
 obtain ⟨ti0,hi,hz0,hz1,hz2⟩:=info_parts Ymn
 obtain ⟨RES,hRES⟩:∃ RES,El one Zqu cpB (ts.length+1) [] ts=RES:=⟨_,rfl⟩
 rw [hRES] at hQ
 have HQ:=Hd hQ
 have HRES:=Hd hRES
 have HCC:=Hd HC
 have HSS:=Hd hS
 have hr:=hR.lt
 have hlen:ts.length≤200000:=by obtain ⟨_,_,_,_,h,_⟩:=hR;exact h
 have B0:=Hd (And.intro hR (And.intro hK (And.intro hG hX)))
 clear hQ hRES HC hS hG hR hK hX
 go_enter Tryz.func175,Tryz.ntmps175
 go_wp2_with fail
 go_loopg [7] (ts.length+1) (fun g out wx=>∃ (acc:List Mw) (tq:List Tok),tq.length+1≤g∧tq.length≤ts.length∧((Z5 Y7) acc).len+tq.length≤200000∧Aside (RTr 119 10 w.heap.size wx out ((Z5 Y7) acc)∧Z0 r w wx∧Rd wx r tq d∧KRd r wx∧Xb tq∧NoX r wx∧El one Zqu cpB g acc tq=RES))
 case atStart=>exact ⟨[],ts,Nat.le_refl _,Nat.le_refl _,by rw [show ((Z5 Y7) []).len=0 from rfl];omega,Zu ⟨(RTr.start _ _ _ _),Z0.refl _ _,B0.out.1,B0.out.2.1,B0.out.2.2.1,B0.out.2.2.2,HRES.out⟩⟩
 case round =>
  obtain ⟨acc,tq,hq,hql,hal,HA⟩:=hrel
  obtain ⟨hrt,hmx,hrx,hkx,hgx,hxx,hex⟩:=HA.out
  obtain ⟨xs,P,hown,hvals,hP⟩:=hrt
  obtain ⟨Ao,co,rfl⟩:=Yw hown
  have KX:=Hd (And.intro hmx (And.intro hrx (And.intro hkx hxx)))
  have GX:=Hd hgx
  have EX:=Hd hex
  have HRT:=Hd (And.intro hown (And.intro hvals hP))
  clear HA hmx hrx hkx hgx hxx hex hown hvals hP
  cases gk with
  | zero=>omega
  | succ g =>
    go_wp2_with fail
    refine (HCC.out tq _ GX.out hql KX.out.2.1 KX.out.2.2.1 KX.out.2.2.2).mono ?_
    intro e w2 h
    cases hv:one tq with
    | error x =>
      rw [hv] at h
      obtain ⟨rfl,m⟩:=Yr h
      exact ⟨rfl,HQ.out _ _ (per (by rw [← EX.out,El,hv]) (KX.out.1.trans m))⟩
    | ok p =>
      obtain ⟨a,tq2⟩:=p
      rw [hv] at h
      obtain ⟨⟨v,rfl,hl⟩,r2,m2⟩:=Jh h
      obtain ⟨s0,s1,i2,i3,b4,i5,i6,s7,A8,n8,k8,A9,n9,k9,rfl,hts⟩:=Yg4 hl
      have hsf:=HSS.out _ _ _ hv
      have hsl:=hsf.2
      have G2:=Hd (GX.out.sub hsf.1)
      have M2:=Hd m2
      have R2:=Hd r2
      have T2:=Hd hts
      have hs2:=m2.size
      have hs0:=KX.out.1.size
      have O2:=Hd (Xu HRT.out.1 m2 hr)
      have HV:=Hd hv
      clear h hv hl hts r2 m2 hsf
      go_wp2_with (at_builtin;refine wpList_append_lies _ rfl _ _ 65 rfl w.heap.size 119 ti0 (.agg #[.string ⟨#[]⟩,.string ⟨#[]⟩,.int .i64 0,.int .i64 0,.bool false,.int .i64 0,.int .i64 0,.string ⟨#[]⟩,.slice none 0 0,.slice none 0 0]) 10 136 Tryz.underlying65 hi hz0 hz1 hz2 rfl (by decide) _ ((Z5 Y7) acc).len xs rfl (Xn O2.out (blw _ _)) _ 1 1 [.string s0,.string s1,.int .i64 i2,.int .i64 i3,.bool b4,.int .i64 i5,.int .i64 i6,.string s7,.slice A8 n8 k8,.slice A9 n9 k9] rfl rfl (fun j u hj=>World.news_of_block (heap_alloc_new _ _) j u hj) (by intro y hy;simp at hy;rcases hy with rfl|rfl|rfl|rfl|rfl|rfl|rfl|rfl|rfl|rfl<;>rfl) (by decide) (by unfold maxLen;omega) (by omega) (by simp;omega) _ rfl ?_;intro gg cap2 w4 hown4 hgrow hat hlt4;have HG4:=Hd hgrow;have HO4:=Hd hown4;have HT4:=Hd hat;clear hgrow hown4 hat)
      have hgk:=Jm HG4.out (r:=r) (fun b hb=>by have:=(HRT.out.1.lt b hb).1;omega)
      have R4:=Hd (hgk.1 _ _ (R2.out.below (blw _ _)))
      have D4:=Hd (hgk.2 ((KX.out.2.2.1.moved M2.out).moved (Z0.of_below (blw _ _))))
      have M4:=Hd (show Z0 r w w4 from by
        have m:=(KX.out.1.trans M2.out).trans (Z0.of_below (blw _ (.cells #[.string s0,.string s1,.int .i64 i2,.int .i64 i3,.bool b4,.int .i64 i5,.int .i64 i6,.string s7,.slice A8 n8 k8,.slice A9 n9 k9] 119)))
        exact ⟨HG4.out.os.trans m.os,HG4.out.tape.trans m.tape,HG4.out.output.trans m.output,Nat.le_trans m.size HG4.out.size,fun k hk hn=>(HG4.out.block k (Nat.lt_of_lt_of_le hk m.size) (fun e=>by have:=(HRT.out.1.lt k e.symm).1;omega)).trans (m.block k hk hn)⟩)
      have X4:=Hd (show NoX r w4 from trivial)
      have T4:=Hd (RTr.app hr (by omega) HRT.out.1 HRT.out.2.1 HRT.out.2.2 M2.out (TS.keep (fun _ hk=>⟨⟨hk.1,hk.2⟩,rfl⟩) _ _ T2.out) HO4.out HG4.out HT4.out)
      clear hgk
      go_wp2_with fail
      refine (Zv r tq2 d 1 cpB _ R4.out).mono ?_
      intro e w5 h5
      have hE:=EX.out
      rw [El,HV.out] at hE
      simp only at hE
      cases hb:atB 1 cpB tq2 with
      | true =>
        rw [hb] at h5 hE
        obtain ⟨rfl,r5,m5⟩:=h5
        rw [Jl hb] at r5
        simp only [if_true] at hE
        have T5:=Hd ((T4.out.moved m5 hr).fin (by rw [TrL.snoc_len];omega))
        have R5:=Hd r5
        have M5:=Hd (M4.out.trans m5)
        have E5:=Hd hE
        clear r5 m5 hE hb
        go_wp2_with fail
        exact HQ.out _ _ (X6 E5.out.symm (show TP _ _ (.row ((Z5 Y7) (Zqu acc a))) _ by rw [show (Z5 Y7) (Zqu acc a)=((Z5 Y7) acc).snoc (Y7 a) from Xa _ _ _];exact T5.out) R5.out M5.out)
      | false =>
        rw [hb] at h5 hE
        obtain ⟨rfl,r5,m5⟩:=h5
        rw [Vg hb] at r5
        simp only [Bool.false_eq_true,if_false] at hE
        have T5:=Hd (T4.out.moved m5 hr)
        have R5:=Hd r5
        have M5:=Hd (M4.out.trans m5)
        have X5:=Hd (X4.out.moved m5)
        have D5:=Hd (D4.out.moved m5)
        have E5:=Hd hE
        clear r5 m5 hE hb
        go_wp2_with fail
        go_roundg g
        case measure=>omega
        case rel=>exact ⟨Zqu acc a,tq2,by omega,by omega,by rw [show (Z5 Y7) (Zqu acc a)=((Z5 Y7) acc).snoc (Y7 a) from Xa _ _ _,TrL.snoc_len];omega,Zu ⟨by rw [show (Z5 Y7) (Zqu acc a)=((Z5 Y7) acc).snoc (Y7 a) from Xa _ _ _];exact T5.out,M5.out,R5.out,D5.out,G2.out,X5.out,E5.out⟩⟩
theorem Ym9:(Tryz.prog.info? 72).map (fun i=>(i.zero,i.size,i.bytes))=some (some (.agg #[.int .i64 0,.string ⟨#[]⟩,.string ⟨#[]⟩,.slice none 0 0,.slice none 0 0,.string ⟨#[]⟩,.slice none 0 0]),7,128):=by kernel_rfl
theorem Yfo (one:List Tok→Except Int ((Wi) × List Tok)) (hS:∀ ts a r,one ts=.ok (a,r)→Sfx r ts) (r d:Nat) (ts:List Tok) (w:World)
  (HC:∀ tq wx,Xb tq→tq.length≤ts.length→Rd wx r tq d→KRd r wx→NoX r wx→Calls Tryz.prog 172 #[.pointer (some ⟨r,0,none⟩)] wx (L8 r d wx (Gt Gk) (one tq)))
  (hG:Xb ts) (hR:Rd w r ts d) (hK:KRd r w) (hX:NoX r w):Calls Tryz.prog 171 #[.pointer (some ⟨r,0,none⟩),.string cmB,.func (.func 172) #[.pointer (some ⟨r,0,none⟩)] #[]] w (L8 r d w (Zxh Z7) (El one Zq7 cmB (ts.length+1) .nil ts)):=by
 refine cQE (fun Q hQ=>?_)
 obtain ⟨ti0,hi,hz0,hz1,hz2⟩:=info_parts Ym9
 obtain ⟨RES,hRES⟩:∃ RES,El one Zq7 cmB (ts.length+1) .nil ts=RES:=⟨_,rfl⟩
 rw [hRES] at hQ
 have HQ:=Hd hQ
 have HRES:=Hd hRES
 have HCC:=Hd HC
 have HSS:=Hd hS
 have hr:=hR.lt
 have hlen:ts.length≤200000:=by obtain ⟨_,_,_,_,h,_⟩:=hR;exact h
 have B0:=Hd (And.intro hR (And.intro hK (And.intro hG hX)))
 clear hQ hRES HC hS hG hR hK hX
 go_enter Tryz.func171,Tryz.ntmps171
 go_wp2_with fail
 go_loopg [7] (ts.length+1) (fun g out wx=>∃ (acc:Vy) (tq:List Tok),tq.length+1≤g∧tq.length≤ts.length∧(Z7 acc).len+tq.length≤200000∧Aside (RTr 72 7 w.heap.size wx out (Z7 acc)∧Z0 r w wx∧Rd wx r tq d∧KRd r wx∧Xb tq∧NoX r wx∧El one Zq7 cmB g acc tq=RES))
 case atStart=>exact ⟨.nil,ts,Nat.le_refl _,Nat.le_refl _,by rw [show (Z7 .nil).len=0 from (by rw [Z7];rfl)];omega,Zu ⟨(by rw [Z7];exact RTr.start _ _ _ _),Z0.refl _ _,B0.out.1,B0.out.2.1,B0.out.2.2.1,B0.out.2.2.2,HRES.out⟩⟩
 case round =>
  obtain ⟨acc,tq,hq,hql,hal,HA⟩:=hrel
  obtain ⟨hrt,hmx,hrx,hkx,hgx,hxx,hex⟩:=HA.out
  obtain ⟨xs,P,hown,hvals,hP⟩:=hrt
  obtain ⟨Ao,co,rfl⟩:=Yw hown
  have KX:=Hd (And.intro hmx (And.intro hrx (And.intro hkx hxx)))
  have GX:=Hd hgx
  have EX:=Hd hex
  have HRT:=Hd (And.intro hown (And.intro hvals hP))
  clear HA hmx hrx hkx hgx hxx hex hown hvals hP
  cases gk with
  | zero=>omega
  | succ g =>
    go_wp2_with fail
    refine (HCC.out tq _ GX.out hql KX.out.2.1 KX.out.2.2.1 KX.out.2.2.2).mono ?_
    intro e w2 h
    cases hv:one tq with
    | error x =>
      rw [hv] at h
      obtain ⟨rfl,m⟩:=Yr h
      exact ⟨rfl,HQ.out _ _ (per (by rw [← EX.out,El,hv]) (KX.out.1.trans m))⟩
    | ok p =>
      obtain ⟨a,tq2⟩:=p
      rw [hv] at h
      obtain ⟨⟨v,rfl,hl⟩,r2,m2⟩:=Jh h
      obtain ⟨i0,s1,s2,A3,n3,k3,A4,n4,k4,s5,A6,n6,k6,rfl,hts⟩:=Zkw hl
      have hsf:=HSS.out _ _ _ hv
      have hsl:=hsf.2
      have G2:=Hd (GX.out.sub hsf.1)
      have M2:=Hd m2
      have R2:=Hd r2
      have T2:=Hd hts
      have hs2:=m2.size
      have hs0:=KX.out.1.size
      have O2:=Hd (Xu HRT.out.1 m2 hr)
      have HV:=Hd hv
      clear h hv hl hts r2 m2 hsf
      go_wp2_with (at_builtin;refine wpList_append_lies _ rfl _ _ 59 rfl w.heap.size 72 ti0 (.agg #[.int .i64 0,.string ⟨#[]⟩,.string ⟨#[]⟩,.slice none 0 0,.slice none 0 0,.string ⟨#[]⟩,.slice none 0 0]) 7 128 Tryz.underlying59 hi hz0 hz1 hz2 rfl (by decide) _ (Z7 acc).len xs rfl (Xn O2.out (blw _ _)) _ 1 1 [.int .i64 i0,.string s1,.string s2,.slice A3 n3 k3,.slice A4 n4 k4,.string s5,.slice A6 n6 k6] rfl rfl (fun j u hj=>World.news_of_block (heap_alloc_new _ _) j u hj) (by intro y hy;simp at hy;rcases hy with rfl|rfl|rfl|rfl|rfl|rfl|rfl<;>rfl) (by decide) (by unfold maxLen;omega) (by omega) (by simp;omega) _ rfl ?_;intro gg cap2 w4 hown4 hgrow hat hlt4;have HG4:=Hd hgrow;have HO4:=Hd hown4;have HT4:=Hd hat;clear hgrow hown4 hat)
      have hgk:=Jm HG4.out (r:=r) (fun b hb=>by have:=(HRT.out.1.lt b hb).1;omega)
      have R4:=Hd (hgk.1 _ _ (R2.out.below (blw _ _)))
      have D4:=Hd (hgk.2 ((KX.out.2.2.1.moved M2.out).moved (Z0.of_below (blw _ _))))
      have M4:=Hd (show Z0 r w w4 from by
        have m:=(KX.out.1.trans M2.out).trans (Z0.of_below (blw _ (.cells #[.int .i64 i0,.string s1,.string s2,.slice A3 n3 k3,.slice A4 n4 k4,.string s5,.slice A6 n6 k6] 72)))
        exact ⟨HG4.out.os.trans m.os,HG4.out.tape.trans m.tape,HG4.out.output.trans m.output,Nat.le_trans m.size HG4.out.size,fun k hk hn=>(HG4.out.block k (Nat.lt_of_lt_of_le hk m.size) (fun e=>by have:=(HRT.out.1.lt k e.symm).1;omega)).trans (m.block k hk hn)⟩)
      have X4:=Hd (show NoX r w4 from trivial)
      have T4:=Hd (RTr.app hr (by omega) HRT.out.1 HRT.out.2.1 HRT.out.2.2 M2.out (TS.keep (fun _ hk=>⟨⟨hk.1,hk.2⟩,rfl⟩) _ _ T2.out) HO4.out HG4.out HT4.out)
      clear hgk
      go_wp2_with fail
      refine (Zv r tq2 d 1 cmB _ R4.out).mono ?_
      intro e w5 h5
      have hE:=EX.out
      rw [El,HV.out] at hE
      simp only at hE
      cases hb:atB 1 cmB tq2 with
      | true =>
        rw [hb] at h5 hE
        obtain ⟨rfl,r5,m5⟩:=h5
        rw [Jl hb] at r5
        simp only [if_true] at hE
        have T5:=Hd ((T4.out.moved m5 hr).fin (by rw [TrL.snoc_len];omega))
        have R5:=Hd r5
        have M5:=Hd (M4.out.trans m5)
        have E5:=Hd hE
        clear r5 m5 hE hb
        go_wp2_with fail
        exact HQ.out _ _ (X6 E5.out.symm (show TP _ _ (.row (Z7 (Zq7 acc a))) _ by rw [show Z7 (Zq7 acc a)=(Z7 acc).snoc (Gk a) from Fa _ _];exact T5.out) R5.out M5.out)
      | false =>
        rw [hb] at h5 hE
        obtain ⟨rfl,r5,m5⟩:=h5
        rw [Vg hb] at r5
        simp only [Bool.false_eq_true,if_false] at hE
        have T5:=Hd (T4.out.moved m5 hr)
        have R5:=Hd r5
        have M5:=Hd (M4.out.trans m5)
        have X5:=Hd (X4.out.moved m5)
        have D5:=Hd (D4.out.moved m5)
        have E5:=Hd hE
        clear r5 m5 hE hb
        go_wp2_with fail
        go_roundg g
        case measure=>omega
        case rel=>exact ⟨Zq7 acc a,tq2,by omega,by omega,by rw [show Z7 (Zq7 acc a)=(Z7 acc).snoc (Gk a) from Fa _ _,TrL.snoc_len];omega,Zu ⟨by rw [show Z7 (Zq7 acc a)=(Z7 acc).snoc (Gk a) from Fa _ _];exact T5.out,M5.out,R5.out,D5.out,G2.out,X5.out,E5.out⟩⟩
abbrev Rdr (α:Type):=List Tok→Except Int (α × List Tok)
def Suf {α:Type} (p:Rdr α):Prop:=∀ ts a r,p ts=.ok (a,r)→r <:+ ts
def Str {α:Type} (p:Rdr α):Prop:=∀ ts a r,p ts=.ok (a,r)→Sfx r ts
def Zk {α β:Type} (p:Rdr α) (q:α→Rdr β):Rdr β:=fun ts=>match p ts with | .error x=>.error x | .ok (a,r)=>q a r
def ifR {α:Type} (k:Int) (s:ByteArray) (p q:Rdr α):Rdr α:=fun ts=>if atB k s ts=true then p ts.tail else q ts
def Tb {α:Type} (b:List Tok→Bool) (p q:Rdr α):Rdr α:=fun ts=>if b ts=true then p ts else q ts
def nmR {α:Type} (p:ByteArray→Rdr α) (q:Rdr α):Rdr α:=fun ts=>match Zb ts with|none=>q ts|some (n,r)=>p n r
theorem J8 (t:Tok) (ts:List Tok):Zb (t :: ts)=if t.1=2 then some (t.2,ts) else none:=rfl
theorem Bt:∀ f:Nat,
   (∀ fx d ts f',2*ts.length+1≤f→f≤f'→F3 f' fx d ts=F3 f fx d ts) ∧
   (∀ fx d acc ts f',2*ts.length+2≤f→f≤f'→Xd f' fx d acc ts=Xd f fx d acc ts) ∧
   (∀ fx d acc ts f',2*ts.length+2≤f→f≤f'→Vr f' fx d acc ts=Vr f fx d acc ts) ∧
   (∀ fx d ts f',2*ts.length+1≤f→f≤f'→Cj f' fx d ts=Cj f fx d ts):=by
 intro f
 induction f with
 | zero=>exact ⟨fun _ _ _ _ h _=>by omega,fun _ _ _ _ _ h _=>by omega,fun _ _ _ _ _ h _=>by omega,fun _ _ _ _ h _=>by omega⟩
 | succ f ih =>
   obtain ⟨iv,il,im,ib⟩:=ih
   refine ⟨fun fx d ts f' h hf=>?_,fun fx d acc ts f' h hf=>?_,fun fx d acc ts f' h hf=>?_,fun fx d ts f' h hf=>?_⟩
   · obtain ⟨g,rfl⟩:∃ g,f'=g+1:=⟨f' - 1,by omega⟩
     rw [F3,F3]
     by_cases h1:atB 1 oB ts=true
     · have:=Ig h1
       rw [if_pos h1,if_pos h1,il _ _ _ _ g (by omega) (by omega)]
     · rw [if_neg h1,if_neg h1]
       by_cases h2:atB 1 omB ts=true
       · have:=Ig h2
         rw [if_pos h2,if_pos h2,im _ _ _ _ g (by omega) (by omega)]
       · rw [if_neg h2,if_neg h2]
   · obtain ⟨g,rfl⟩:∃ g,f'=g+1:=⟨f' - 1,by omega⟩
     rw [Xd,Xd,iv _ _ _ g (by omega) (by omega)]
     split
     · rfl
     · cases hv:F3 f fx d ts with
       | error x=>rfl
       | ok q =>
         obtain ⟨v,r⟩:=q
         have:=(Fi f).1 _ _ _ _ _ hv
         exact il _ _ _ _ g (by omega) (by omega)
   · obtain ⟨g,rfl⟩:∃ g,f'=g+1:=⟨f' - 1,by omega⟩
     rw [Vr,Vr,ib _ _ _ g (by omega) (by omega)]
     split
     · rfl
     · cases hv:Cj f fx d ts with
       | error x=>rfl
       | ok q =>
         obtain ⟨⟨nm,v⟩,r⟩:=q
         have:=(Fi f).2.2.2 _ _ _ _ _ hv
         exact im _ _ _ _ g (by omega) (by omega)
   · obtain ⟨g,rfl⟩:∃ g,f'=g+1:=⟨f' - 1,by omega⟩
     rw [Cj,Cj]
     cases hn:Zb ts with
     | none=>rfl
     | some q =>
       obtain ⟨nm,r⟩:=q
       have:=Wg hn
       simp only
       by_cases h1:atB 1 Jq r=true
       · have:=Ig h1
         rw [if_pos h1,if_pos h1,iv _ _ _ g (by omega) (by omega)]
       · rw [if_neg h1,if_neg h1]
def Gr (fx:Bool) (d:Nat) (acc:VL) (ts:List Tok):Except Int (VL × List Tok):=Xd (2*ts.length+2) fx d acc ts
def Ml (fx:Bool) (d:Nat) (acc:VM) (ts:List Tok):Except Int (VM × List Tok):=Vr (2*ts.length+2) fx d acc ts
def Oy {α:Type} (x:Int):Rdr α:=fun _=>.error x
def Il {α:Type} (a:α):Rdr α:=fun ts=>.ok (a,ts)
def Ymp:Rdr VT:=ifR 1 X9 (nmR (fun s=>Il (.mk 8 0 s .nil .nil)) (Oy 2)) Zqa
theorem Ww (fx:Bool) (d:Nat):Uq fx d=ifR 1 oB (if d=16 then Oy 4 else Zk (Gr fx (d+1) .nil) fun l=>Il (.mk 6 0 ⟨#[]⟩ l .nil)) (ifR 1 omB (if d=16 then Oy 4 else Zk (Ml fx (d+1) .nil) fun m=>Il (.mk 7 0 ⟨#[]⟩ .nil m)) (if fx=true then Zqa else Ymp)):=by
 funext ts
 unfold Uq ifR
 rw [F3]
 by_cases h1:atB 1 oB ts=true
 · have:=Ig h1
   rw [if_pos h1,if_pos h1]
   by_cases hd:d=16
   · rw [if_pos hd,if_pos hd];rfl
   · rw [if_neg hd,if_neg hd]
     unfold Zk Gr
     rw [show 2*ts.tail.length+2=2*ts.length by omega]
     cases Xd (2*ts.length) fx (d+1) .nil ts.tail<;>rfl
 · rw [if_neg h1,if_neg h1]
   by_cases h2:atB 1 omB ts=true
   · have:=Ig h2
     rw [if_pos h2,if_pos h2]
     by_cases hd:d=16
     · rw [if_pos hd,if_pos hd];rfl
     · rw [if_neg hd,if_neg hd]
       unfold Zk Ml
       rw [show 2*ts.tail.length+2=2*ts.length by omega]
       cases Vr (2*ts.length) fx (d+1) .nil ts.tail<;>rfl
   · rw [if_neg h2,if_neg h2]
     cases fx with
     | true=>rfl
     | false =>
       rw [if_neg (by simp : ¬ (false=true))]
       unfold Ymp ifR nmR
       cases h3:atB 1 X9 ts with
       | true =>
         simp only [Bool.not_false,Bool.and_self,if_true]
         cases Zb ts.tail<;>rfl
       | false=>rfl
theorem Dv (fx:Bool) (d:Nat) (acc:VL):Gr fx d acc=ifR 1 cB (Il acc) (Zk (Uq fx d) fun v=>Gr fx d (acc.snoc v)):=by
 funext ts
 unfold Gr ifR
 rw [Xd]
 split
 · rfl
 · unfold Zk Uq
   cases hv:F3 (2*ts.length+1) fx d ts with
   | error x=>rfl
   | ok q =>
     obtain ⟨v,r⟩:=q
     have:=(Fi _).1 _ _ _ _ _ hv
     exact (Bt _).2.1 _ _ _ _ _ (Nat.le_refl _) (by omega)
theorem Qb (fx:Bool) (d:Nat) (acc:VM):Ml fx d acc=ifR 1 cmB (Il acc) (Zk (Cy fx d) fun p=>Ml fx d (acc.snoc p.1 p.2)):=by
 funext ts
 unfold Ml ifR
 rw [Vr]
 split
 · rfl
 · unfold Zk Cy
   cases hv:Cj (2*ts.length+1) fx d ts with
   | error x=>rfl
   | ok q =>
     obtain ⟨⟨nm,v⟩,r⟩:=q
     have:=(Fi _).2.2.2 _ _ _ _ _ hv
     exact (Bt _).2.2.1 _ _ _ _ _ (Nat.le_refl _) (by omega)
theorem Yda (fx:Bool) (d:Nat):Cy fx d=nmR (fun nm=>ifR 1 Jq (Zk (Uq fx d) fun v=>Il (nm,v)) (Oy 2)) (Oy 2):=by
 funext ts
 unfold Cy nmR ifR
 rw [Cj]
 cases hn:Zb ts with
 | none=>rfl
 | some q =>
   obtain ⟨nm,r⟩:=q
   have:=Wg hn
   simp only
   by_cases h1:atB 1 Jq r=true
   · have:=Ig h1
     rw [if_pos h1,if_pos h1]
     unfold Zk Uq
     rw [(Bt (2*r.tail.length+1)).1 _ _ _ (2*ts.length) (Nat.le_refl _) (by omega)]
     cases F3 (2*r.tail.length+1) fx d r.tail<;>rfl
   · rw [if_neg h1,if_neg h1];rfl
theorem Yl6 (fx:Bool) (d:Nat):Str (Uq fx d):=fun _ _ _ h=>Pr h
theorem Pl (fx:Bool) (d:Nat):Str (Cy fx d):=fun _ _ _ h=>An h
theorem Rw {α ρ:Type} {one:Rdr α} {add:ρ→α→ρ} {e:ByteArray} (H:Str one):∀ (f f':Nat) (acc:ρ) (ts:List Tok),ts.length < f→ts.length < f'→El one add e f acc ts=El one add e f' acc ts
 | 0,_,_,_,h,_=>absurd h (Nat.not_lt_zero _)
 | _+1,0,_,_,_,h=>absurd h (Nat.not_lt_zero _)
 | f + 1,f'+1,acc,ts,h,h'=>by
   rw [El,El]
   cases ho:one ts with
   | error x=>rfl
   | ok p =>
     obtain ⟨a,r⟩:=p
     simp only
     split
     · rfl
     · have:=(H _ _ _ ho).2
       exact Rw H f f' _ _ (by omega) (by omega)
def Ydm {α ρ:Type} (one:Rdr α) (add:ρ→α→ρ) (e:ByteArray) (acc:ρ):Rdr ρ:=fun ts=>El one add e (ts.length+1) acc ts
theorem Yab {α ρ:Type} {one:Rdr α} {add:ρ→α→ρ} {e:ByteArray} (H:Str one) (acc:ρ):Ydm one add e acc=Zk one fun a=>ifR 1 e (Il (add acc a)) (Ydm one add e (add acc a)):=by
 funext ts
 unfold Ydm Zk ifR
 rw [El]
 cases ho:one ts with
 | error x=>rfl
 | ok p =>
   obtain ⟨a,r⟩:=p
   simp only
   have:=(H _ _ _ ho).2
   rw [Rw H ts.length (r.length+1) _ _ this (by omega)]
   rfl
theorem Pj (fx:Bool) (d:Nat):Ym fx d=ifR 1 opB (Ydm (Cy fx d) Zq8 cpB .nil) (Il .nil):=by funext ts;rfl
theorem Zjy (fx:Bool) (d:Nat):Suf (Ym fx d):=fun _ _ _ h=>Jk h
theorem Nh {fx:Bool} {d:Nat} : ∀ (f f':Nat) (acc:List Lk) (ts:List Tok),ts.length < f→ts.length < f'→Gm fx d f acc ts=Gm fx d f' acc ts
 | 0,_,_,_,h,_=>absurd h (Nat.not_lt_zero _)
 | _+1,0,_,_,_,h=>absurd h (Nat.not_lt_zero _)
 | f + 1,f'+1,acc,ts,h,h'=>by
   rw [Gm,Gm]
   split
   · rename_i ha
     have h1:=(Zf ha).2
     cases hn:Zb ts.tail with
     | none=>rfl
     | some q =>
       obtain ⟨n,r⟩:=q
       have h2:=(Zc hn).2
       simp only
       cases hg:Ym fx d r with
       | error x=>rfl
       | ok q =>
         obtain ⟨m,r2⟩:=q
         have h3:=(Jk hg).length_le
         exact Nh f f' _ _ (by omega) (by omega)
   · rfl
def Py (fx:Bool) (d:Nat) (acc:List Lk):Rdr (List Lk):=fun ts=>Gm fx d (ts.length+1) acc ts
theorem Pq (fx:Bool) (d:Nat) (acc:List Lk):Py fx d acc=ifR 1 Zqb (nmR (fun n=>Zk (Ym fx d) fun m=>Py fx d (acc++[(n,m)])) (Oy 2)) (Il acc):=by
 funext ts
 unfold Py ifR nmR Zk
 rw [Gm]
 split
 · rename_i ha
   have h1:=(Zf ha).2
   cases hn:Zb ts.tail with
   | none=>rfl
   | some q =>
     obtain ⟨n,r⟩:=q
     have h2:=(Zc hn).2
     simp only
     cases hg:Ym fx d r with
     | error x=>rfl
     | ok q =>
       obtain ⟨m,r2⟩:=q
       have h3:=(Jk hg).length_le
       exact Nh _ _ _ _ (by omega) (by omega)
 · rfl
theorem Ycz (fx:Bool) (d:Nat) (acc:List Lk):Suf (Py fx d acc):=fun _ _ _ h=>Bj _ _ _ _ _ h
theorem Yfm (fx:Bool) (d:Nat):Zp fx d=Py fx d []:=rfl
theorem Im (fx:Bool) (d:Nat):Suf (Zp fx d):=Ycz fx d []
def Dc (n:ByteArray) (l m:Nat):Rdr (ByteArray × Nat × Nat):=ifR 1 bB (Il (n,l,m ||| 1)) (Il (n,l,m))
theorem G9 (n:ByteArray) (l m:Nat) (ts:List Tok):Dc n l m ts=.ok (Uh n l m ts):=by
 unfold Dc ifR Uh
 split
 · rfl
 · rfl
theorem Co:Zl 0=ifR 1 oB (Oy 4) (nmR (fun n=>Dc n 0 0) (Oy 2)):=by
 funext ts
 unfold ifR nmR
 by_cases h:atB 1 oB ts=true
 · rw [Eq h,if_pos h];rfl
 · have h':atB 1 oB ts=false:=by simpa using h
   rw [Vx h',if_neg h]
   cases Zb ts with
   | none=>rfl
   | some q=>obtain ⟨n,r⟩:=q;exact (G9 n 0 0 r).symm
theorem Df (left:Nat):Zl (left+1)=ifR 1 oB (Zk (Zl left) fun t=>ifR 1 cB (Dc t.1 (t.2.1+1) (2*t.2.2)) (Oy 2)) (nmR (fun n=>Dc n 0 0) (Oy 2)):=by
 funext ts
 unfold ifR nmR Zk
 by_cases h:atB 1 oB ts=true
 · rw [Uw h,if_pos h]
   cases Zl left ts.tail with
   | error x=>rfl
   | ok q =>
     obtain ⟨⟨n,l,m⟩,r⟩:=q
     simp only
     split
     · exact (G9 _ _ _ _).symm
     · rfl
 · have h':atB 1 oB ts=false:=by simpa using h
   rw [Vx h',if_neg h]
   cases Zb ts with
   | none=>rfl
   | some q=>obtain ⟨n,r⟩:=q;exact (G9 n 0 0 r).symm
theorem Yc1 (left:Nat):Str (Zl left):=fun _ _ _ h=>Zqj _ _ _ _ h
theorem Na (S:Ul) (d:Nat) (o:ByteArray):Yl S d o=Zk (Zp false d) fun ds=>Zk S fun s=>Il (.mk 2 eB eB .nil ds o s):=by
 funext ts
 unfold Yl Zk
 cases Zp false d ts with
 | error x=>rfl
 | ok q =>
   obtain ⟨ds,r⟩:=q
   simp only
   cases S r<;>rfl
theorem Gf (S:Ul) (d:Nat):Xx S d=ifR 2 onB (nmR (fun o=>Yl S d o) (Oy 2)) (nmR (fun n=>Zk (Zp false d) fun ds=>Il (.mk 1 eB n .nil ds eB .nil)) (Yl S d eB)):=by
 funext ts
 unfold Xx ifR nmR Zk
 split
 · cases Zb ts.tail<;>rfl
 · cases Zb ts with
   | none=>rfl
   | some q =>
     obtain ⟨n,r⟩:=q
     simp only
     cases Zp false d r<;>rfl
theorem Q3 (S:Ul) (d:Nat) (al nm:ByteArray):Ua S d al nm=Zk (Ym false d) fun g=>Zk (Zp false d) fun ds=>Tb (atB 1 omB) (Zk S fun s=>Il (.mk 0 al nm g ds eB s)) (Il (.mk 0 al nm g ds eB .nil)):=by
 funext ts
 unfold Ua Zk Tb
 cases Ym false d ts with
 | error x=>rfl
 | ok q =>
   obtain ⟨g,r⟩:=q
   simp only
   cases Zp false d r with
   | error x=>rfl
   | ok q =>
     obtain ⟨ds,r2⟩:=q
     simp only
     split
     · cases S r2<;>rfl
     · rfl
theorem Bs (S:Ul) (d:Nat):I5 S d=nmR (fun n=>ifR 1 Jq (nmR (fun n2=>Ua S d n n2) (Oy 2)) (Ua S d eB n)) (Oy 2):=by
 funext ts
 unfold I5 nmR ifR
 cases Zb ts with
 | none=>rfl
 | some q =>
   obtain ⟨n,r⟩:=q
   simp only
   split
   · cases Zb r.tail<;>rfl
   · rfl
theorem Fm (S:Ul) (d:Nat):Jo S d=ifR 1 Yn (Xx S d) (I5 S d):=by funext ts;rfl
theorem Ylb {S:Ul} (sS:Str S) (d:Nat):Str (Jo S d):=fun _ _ _ h=>Mu (fun _ _ _ h=>sS _ _ _ h) h
theorem Zkx {S S':Ul} {d:Nat} {ts:List Tok} (h:∀ tq,tq.length < ts.length→S tq=S' tq):Jo S d ts=Jo S' d ts:=by
 have hin:∀ o tq,tq.length < ts.length→Yl S d o tq=Yl S' d o tq:=by
   intro o tq hq
   unfold Yl
   cases hd:Zp false d tq with
   | error x=>rfl
   | ok q =>
     obtain ⟨ds,r⟩:=q
     have:=(Yj hd).length_le
     simp only
     rw [h r (by omega)]
 have hre:∀ al nm tq,tq.length < ts.length→Ua S d al nm tq=Ua S' d al nm tq:=by
   intro al nm tq hq
   unfold Ua
   cases hg:Ym false d tq with
   | error x=>rfl
   | ok q =>
     obtain ⟨g,r0⟩:=q
     have h0:=(Jk hg).length_le
     simp only
     cases hd:Zp false d r0 with
     | error x=>rfl
     | ok q =>
       obtain ⟨ds,r⟩:=q
       have:=(Yj hd).length_le
       simp only
       rw [h r (by omega)]
 unfold Jo
 split
 · rename_i ha
   have h1:=(Zf ha).2
   unfold Xx
   split
   · rename_i hb
     have h2:=(Zf hb).2
     cases hn:Zb ts.tail.tail with
     | none=>rfl
     | some q =>
       obtain ⟨o,r⟩:=q
       have:=(Zc hn).2
       exact hin _ _ (by omega)
   · cases hn:Zb ts.tail with
     | none=>exact hin _ _ h1
     | some q=>rfl
 · unfold I5
   cases hn:Zb ts with
   | none=>rfl
   | some q =>
     obtain ⟨n,r⟩:=q
     have h1:=(Zc hn).2
     simp only
     split
     · rename_i hb
       have h2:=(Zf hb).2
       cases hm:Zb r.tail with
       | none=>rfl
       | some q =>
         obtain ⟨n2,r2⟩:=q
         have:=(Zc hm).2
         exact hre _ _ _ (by omega)
     · exact hre _ _ _ h1
theorem Ah {α ρ:Type} {one one':Rdr α} {add:ρ→α→ρ} {e:ByteArray} (H:Str one):∀ (f:Nat) (acc:ρ) (ts:List Tok),(∀ tq,tq.length≤ts.length→one tq=one' tq)→El one add e f acc ts=El one' add e f acc ts
 | 0,_,_,_=>rfl
 | f + 1,acc,ts,h=>by
   rw [El,El,← h ts (Nat.le_refl _)]
   cases ho:one ts with
   | error x=>rfl
   | ok p =>
     obtain ⟨a,r⟩:=p
     have:=(H _ _ _ ho).2
     simp only
     rw [Ah H f _ r fun tq hq=>h tq (by omega)]
theorem Bn:∀ f:Nat,(∀ d ts f',ts.length < f→f≤f'→Ft f d ts=Ft f' d ts)∧(∀ d ts f',ts.length < f→f≤f'→Zqc f d ts=Zqc f' d ts):=by
 intro f
 induction f with
 | zero=>exact ⟨fun _ _ _ h _=>absurd h (Nat.not_lt_zero _),fun _ _ _ h _=>absurd h (Nat.not_lt_zero _)⟩
 | succ f ih =>
   obtain ⟨i1,i2⟩:=ih
   refine ⟨fun d ts f' h hf=>?_,fun d ts f' h hf=>?_⟩
   · obtain ⟨g,rfl⟩:∃ g,f'=g+1:=⟨f' - 1,by omega⟩
     rw [Ft,Ft]
     split
     · rename_i ha
       have h1:=(Zf ha).2
       split
       · rfl
       · exact Ah (fun _ _ _ h=>(Cx f).2 _ _ _ _ h) _ _ _ fun tq hq=>i2 _ _ g (by omega) (by omega)
     · rfl
   · obtain ⟨g,rfl⟩:∃ g,f'=g+1:=⟨f' - 1,by omega⟩
     rw [Zqc,Zqc]
     exact Zkx fun tq hq=>i1 _ _ g (by omega) (by omega)
def Wr (d:Nat):Rdr Wi:=fun ts=>Zqc (ts.length+1) d ts
theorem Gx (d:Nat):Wr d=Jo (X8 d) d:=by
 funext ts
 unfold Wr
 rw [Zqc]
 exact Zkx fun tq hq=>((Bn _).1 _ _ _ (Nat.lt_succ_self _) (by omega)).symm
theorem Zjh (d:Nat):X8 d=ifR 1 omB (if d=16 then Oy 4 else Ydm (Wr (d+1)) Zq7 cmB .nil) (Oy 2):=by
 funext ts
 unfold X8 ifR
 rw [Ft]
 split
 · rename_i ha
   have h1:=(Zf ha).2
   split
   · rfl
   · exact Ah (fun _ _ _ h=>(Cx _).2 _ _ _ _ h) _ _ _ fun tq hq=>((Bn _).2 _ _ _ (Nat.lt_succ_self _) (by omega)).symm
 · rfl
theorem Ye2 (d:Nat):Str (X8 d):=fun _ _ _ h=>Iy h
theorem Dm (d:Nat):Str (Wr d):=by rw [Gx];exact Ylb (Ye2 d) d
def Ync (d:Nat) (n:ByteArray) (t:ByteArray × Nat × Nat):Rdr Mw:=ifR 1 eqB (Zk (Uq true d) fun v=>Il ⟨n,t.1,t.2.1,t.2.2,true,v⟩) (Il ⟨n,t.1,t.2.1,t.2.2,false,Mj⟩)
theorem Zj3 (d:Nat):Gs d=ifR 1 X9 (nmR (fun n=>ifR 1 Jq (Zk (Zl 4) fun t=>Ync d n t) (Oy 2)) (Oy 2)) (Oy 2):=by
 funext ts
 unfold Gs ifR nmR Zk Ync ifR Zk
 split
 · cases Zb ts.tail with
   | none=>rfl
   | some q =>
     obtain ⟨n,r⟩:=q
     simp only
     split
     · cases Zl 4 r.tail with
       | error x=>rfl
       | ok q =>
         obtain ⟨t,r2⟩:=q
         simp only
         split
         · cases Uq true d r2.tail<;>rfl
         · rfl
     · rfl
 · rfl
theorem Zzk (d:Nat):Str (Gs d):=fun _ _ _ h=>Oi h
theorem Q5 (d:Nat):Jj d=ifR 1 opB (Ydm (Gs d) Zqu cpB []) (Il []):=by funext ts;rfl
theorem Ygu (d:Nat):Suf (Jj d):=fun _ _ _ h=>Zjt h
theorem Tl (kind:Int) (d:Nat) (nm:ByteArray):Jt kind d nm=Zk (Jj d) fun vs=>Zk (Zp true d) fun ds=>Zk (X8 d) fun s=>Il ⟨kind,nm,vs,ds,s⟩:=by
 funext ts
 unfold Jt Zk
 cases Jj d ts with
 | error x=>rfl
 | ok q =>
   obtain ⟨vs,r⟩:=q
   simp only
   cases Zp true d r with
   | error x=>rfl
   | ok q =>
     obtain ⟨ds,r2⟩:=q
     simp only
     cases X8 d r2<;>rfl
theorem Zyx (kind:Int) (d:Nat):opR kind d=nmR (fun n=>Jt kind d n) (Jt kind d eB):=by
 funext ts
 unfold opR nmR
 cases Zb ts<;>rfl
theorem Zjs (d:Nat):Ud d=Tb (atB 2 onB) (Oy 2) (nmR (fun n=>ifR 2 onB (nmR (fun o=>Zk (Zp true d) fun ds=>Zk (X8 d) fun s=>Il ⟨n,o,ds,s⟩) (Oy 2)) (Oy 2)) (Oy 2)):=by
 funext ts
 unfold Ud Tb nmR ifR Zk
 split
 · rfl
 · cases Zb ts with
   | none=>rfl
   | some q =>
     obtain ⟨n,r⟩:=q
     simp only
     split
     · cases Zb r.tail with
       | none=>rfl
       | some q =>
         obtain ⟨o,r2⟩:=q
         simp only
         cases Zp true d r2 with
         | error x=>rfl
         | ok q =>
           obtain ⟨ds,r3⟩:=q
           simp only
           cases X8 d r3<;>rfl
     · rfl
inductive Ydo where
 | op (x:OpT)
 | frag (x:Ql)
def Be:Rdr Ydo:=
 Tb (atB 1 omB) (Zk (X8 0) fun s=>Il (.op ⟨0,eB,[],[],s⟩)) (ifR 2 J2 (Zk (opR 0 0) fun o=>Il (.op o)) (ifR 2 Nz (Zk (opR 1 0) fun o=>Il (.op o)) (ifR 2 Cr (Zk (Ud 0) fun o=>Il (.frag o)) (Oy 2))))
def Zq9 (D:Vs):Ydo→Vs
 | .op x=>⟨D.ops++[x],D.frags⟩
 | .frag x=>⟨D.ops,D.frags++[x]⟩
theorem Qv (D:Vs):Zzg D=Zk Be fun x=>Il (Zq9 D x):=by
 funext ts
 unfold Zzg Zk Be Tb ifR Zk
 split
 · cases X8 0 ts<;>rfl
 · split
   · cases opR 0 0 ts.tail<;>rfl
   · split
     · cases opR 1 0 ts.tail<;>rfl
     · split
       · cases Ud 0 ts.tail<;>rfl
       · rfl
def Sm:Nat→List Tok→Except Int (List Ydo)
 | 0,_=>.error 2
 | f+1,ts =>
   match Be ts with
   | .error x=>.error x
   | .ok (x,r)=>if r.isEmpty=true then .ok [x] else match Sm f r with | .error e=>.error e | .ok l=>.ok (x :: l)
theorem Yav:∀ (f:Nat) (D:Vs) (ts:List Tok),Mf f D ts=(match Sm f ts with | .error e=>.error e | .ok l=>.ok (l.foldl Zq9 D))
 | 0,_,_=>rfl
 | f + 1,D,ts=>by
   rw [Mf,Sm,Qv]
   unfold Zk
   cases Be ts with
   | error x=>rfl
   | ok q =>
     obtain ⟨x,r⟩:=q
     show (if r.isEmpty=true then .ok (Zq9 D x) else Mf f (Zq9 D x) r)=_
     simp only
     split
     · rfl
     · rw [Yav f]
       cases Sm f r<;>rfl
def Yli (ts:List Tok):Except Int (List Ydo):=Sm (ts.length+1) ts
theorem Yjt (ts:List Tok):Mc ts=(match Yli ts with | .error e=>.error e | .ok l=>.ok (l.foldl Zq9 ⟨[],[]⟩)):=Yav _ _ _
end Go.Proofs.YtpkmbhnikilihaaGreatDoor
