/- The landed Type, whole. -/
import Derived.Test.YtkmloefbkgcbkaaGreatDoorSr18
import Derived.Deep.Cut
set_option maxRecDepth 100000
set_option maxHeartbeats 8000000
namespace Go.Proofs.YtkmloefbkgcbkaaGreatDoor
open Go.RowKit
def C8 (ts:List (Int × List UInt8)):List Tok:=ts.map fun t=>(t.1,⟨t.2.toArray⟩)
theorem U3 (ts:List (Int × List UInt8)):(C8 ts).length=ts.length:=by simp [C8]
theorem Gt:∀ (ts:List (Int × List UInt8)) (j:Nat) t,(C8 ts)[j]? = some t→(X8 ts)[j*2]? = some (.int .i64 t.1)∧(X8 ts)[j*2+1]? = some (.string t.2)
 | [],_,_,h=>by simp [C8] at h
 | u :: ts,0,t,h=>by
   have:(u.1,(⟨u.2.toArray⟩:ByteArray))=t:=by simpa [C8] using h
   subst this;exact ⟨rfl,rfl⟩
 | u :: ts,j+1,t,h=>by
   obtain ⟨h0,h1⟩:=Gt ts j t (by simpa [C8] using h);refine ⟨?_,?_⟩
   · rw [show (j+1)*2=j*2+2 by omega];simpa [X8] using h0
   · rw [show (j+1)*2+1=(j*2+1)+2 by omega];simpa [X8] using h1
theorem Yh2 {w:World} {base:Nat} {A:Option Addr} {cap:Nat} {ts:List (Int × List UInt8)} (h:w.ownsRow base 45 2 (.slice A ts.length cap) ts.length (X8 ts)) (hl:ts.length≤200000) {g:Nat} (hg:g=w.heap.size):Rd (w.alloc (.cells #[.slice A ts.length cap,.int .i64 0] 57)) g (C8 ts) 0:=by
 subst hg;have hlt:=h.lt;refine ⟨A,cap,by rw [U3];exact heap_alloc_new _ _,?_,by rw [U3];exact hl,fun j t ht=>?_⟩
 · rw [U3]
   rcases h.2 with ⟨e,h0⟩|⟨g,c,cur,e,_,_,hc,_⟩
   · omega
   · injection e with _ _ e;omega
 · obtain ⟨h0,h1⟩:=Gt ts j t ht
   have hj:j < ts.length:=by have:=(List.getElem?_eq_some_iff.1 ht).1;rwa [U3] at this
   rcases h.2 with ⟨e,hn⟩|⟨g,c,cur,e,_,_,_,_⟩
   · omega
   · injection e with e1 _ _
     subst e1;have hgl:=(hlt g rfl).2;refine ⟨g,0,rfl,hgl,?_,?_⟩
     · rw [Nat.zero_add,World.cell?_of_block (a:=⟨g,j*2,none⟩) (Below.heap_alloc _ _ _ hgl),h.cellAt _ (by omega)];exact h0
     · rw [Nat.zero_add,World.cell?_of_block (a:=⟨g,j*2+1,none⟩) (Below.heap_alloc _ _ _ hgl),h.cellAt _ (by omega)];exact h1
theorem Uf {w:World} {b:Nat} {z:Value} {t:TypeId} (h:w.heap[b]? = some (.cells #[z] t (0,0))):w.cell? ⟨b,0,none⟩=some z∧w.frozen? ⟨b,0,none⟩=false:=by
 refine ⟨?_,?_⟩
 · simp only [World.cell?,h];rfl
 · simp [World.frozen?,h]
theorem Fm (w:World) (o o':Obj):Below w.heap.size w ((w.alloc o).alloc o'):=((Below.refl _ _).alloc (Nat.le_refl _) o).alloc (by simp) o'
theorem Bu (ts:List Tok) (hN:Vq ts) (r d:Nat) (w:World) (h:Rd w r ts d):Calls Tryz.prog 86 #[.pointer (some ⟨r,0,none⟩)] w fun e w'=>match Zj 4 ts with
   | .ok ((n,l,m),ts')=>e=.returned (.agg #[.string n,.int .i64 (l:Int),.int .i64 (m:Int)])∧Rd w' r ts' d∧Z0 r w w'
   | .error x=>e=Yb x∧Z0 r w w':=by
 have HT:=fun wx (hb:Below w.heap.size w wx)=>Hd (Ymb 4 (Nat.le_refl _) ts hN r d wx (h.below hb));have hl:=h.lt;have hb0:=Hd (blw w (.cells #[.string ⟨#[]⟩,.int .i64 0,.int .i64 0] 70));clear h
 cases ht:Zj 4 ts with
 | error x =>
   rw [ht] at HT
   show Calls _ _ _ _ fun e w'=>e=Yb x∧Z0 r w w'
   go_enter Tryz.func86,Tryz.ntmps86
   go_wp2_with fail
   refine (HT _ hb0.out).out.mono ?_;rintro e w1 ⟨rfl,m1⟩;exact ⟨rfl,rfl,(Z0.of_below hb0.out).trans m1⟩
 | ok p =>
   obtain ⟨⟨n,l,m⟩,ts1⟩:=p;rw [ht] at HT
   show Calls _ _ _ _ fun e w'=>e=.returned (.agg #[.string n,.int .i64 (l:Int),.int .i64 (m:Int)])∧Rd w' r ts1 d∧Z0 r w w';have hc0:=Hd (heap_alloc_last w (.cells #[.string ⟨#[]⟩,.int .i64 0,.int .i64 0] 70))
   go_enter Tryz.func86,Tryz.ntmps86
   go_wp2_with fail
   refine (HT _ hb0.out).out.mono ?_;rintro e w1 ⟨rfl,r1,m1⟩;have hc1:=m1.keep hc0.out (by omega);have C1:=Hd hc1;have R1:=Hd (And.intro r1 m1);obtain ⟨k0,k1,k2,z0,z1,z2⟩:=Zy hc1;clear r1 m1 hc1 HT;go_wp2_with fail
   refine Zqk rfl rfl rfl (Db C1.out) ⟨rfl,((R1.out.1.set hl).set hl).set hl,?_⟩;exact ((((Z0.of_below hb0.out).trans R1.out.2).put (Nat.le_refl _)).put (Nat.le_refl _)).put (Nat.le_refl _)
theorem Cl (p:UInt8→Bool):∀ l:List UInt8,(l.takeWhile p).all p=true
 | []=>rfl
 | b :: t=>by
   rw [List.takeWhile_cons]
   split
   · rename_i h
     rw [List.all_cons,h,Cl p t];rfl
   · rfl
theorem Sk {l:List UInt8} (h:Je l ≠ 0):Jv (l.take (Je l))=true:=by
 cases l with
 | nil=>exact absurd rfl h
 | cons b t =>
   have e0:Je (b :: t)=if Wf b then 1+(t.takeWhile If).length else 0:=rfl;rw [e0] at h ⊢
   split
   · rename_i hb
     rw [Nat.add_comm,List.take_succ_cons];have e:t.take (t.takeWhile If).length=t.takeWhile If:=(List.prefix_iff_eq_take.1 (List.takeWhile_prefix If)).symm;rw [e]
     show (Qz (b.toNat:Int) && Wz _)=true;rw [show Qz (b.toNat:Int)=true from hb,Bool.true_and];exact Cl If t
   · rename_i hb
     rw [if_neg hb] at h;exact absurd rfl h
theorem Yjs {l:List UInt8} {x:List UInt8} {n:Nat} (h:Lb l=some ((2,x),n)):Jv x=true∧x.length≤l.length:=by
 unfold Lb at h
 split at h
 · cases h
 · split at h
   · rename_i hw
     have:=(Prod.mk.inj (Prod.mk.inj (Option.some.inj h)).1).2;subst this;exact ⟨Sk hw,by rw [List.length_take];omega⟩
   · split at h
     · rename_i hn
       have h2:=(Prod.mk.inj (Prod.mk.inj (Option.some.inj h)).1).1
       have hz:(nbL l).2=0∨(nbL l).2=3∨(nbL l).2=4:=by
        unfold nbL
        split
        · exact .inl rfl
        · split
          · exact .inl rfl
          · unfold nmL
            split
            · exact .inl rfl
            · simp only
              split
              · exact .inr (.inl rfl)
              · exact .inr (.inr rfl)
       omega
     · cases hq:Xx l with
       | none=>rw [hq] at h;cases h
       | some q=>rw [hq] at h;cases h
theorem Gx : ∀ (n:Nat) (l:List UInt8) ts,Iy n l=some ts→∀ t ∈ ts,t.1=2→Jv t.2=true∧t.2.length≤l.length
 | 0,_,_,h=>by cases h
 | n + 1, l, ts,h=>by
   rw [Iy] at h
   split at h
   · intro t ht hk
     have:=Gx n _ ts h t ht hk;exact ⟨this.1,Nat.le_trans this.2 (by rw [List.length_drop];omega)⟩
   · split at h
     · cases h
       intro t ht;cases ht
     · cases hk:Lb l with
       | none=>rw [hk] at h;cases h
       | some p =>
         obtain ⟨⟨k,x⟩,m⟩:=p;rw [hk] at h
         cases hr:Iy n (l.drop m) with
         | none=>simp only [hr] at h;cases h
         | some us =>
           simp only [hr] at h;have h:=Option.some.inj h;subst h;intro t ht h2;rcases List.mem_cons.1 ht with e|e
           · subst e
             have h2:k=2:=h2;subst h2;exact Yjs hk
           · have:=Gx n _ us hr t e h2
             exact ⟨this.1,Nat.le_trans this.2 (by rw [List.length_drop];omega)⟩
theorem Zyx {s:ByteArray} {ts:List (Int × List UInt8)} (hs:s.size≤9000) (h:Ua s.data.toList=some ts):Vq (C8 ts):=by
 intro t ht hk;unfold C8 at ht;obtain ⟨u,hu,rfl⟩:=List.mem_map.1 ht;have:=Gx _ _ ts h u hu hk;refine ⟨by simpa using this.1,?_⟩;have h2:(⟨u.2.toArray⟩:ByteArray).size=u.2.length:=by rw [Lib.size_eq]
 have h3:s.data.toList.length=s.size:=Array.length_toList
 show (⟨u.2.toArray⟩:ByteArray).size≤9000;omega
theorem Sf {w w2:World} {A:Option Addr} {cap:Nat} {ts:List (Int × List UInt8)} {v:Value} {B:Nat} (h:w2.ownsRow B 45 2 (.slice A ts.length cap) ts.length (X8 ts)) (hl:ts.length≤200000) (hb:w.heap.size+2≤B) :
  Rd ((w2.setCell ⟨w.heap.size+1,0,none⟩ v).alloc (.cells #[.slice A ts.length cap,.int .i64 0] 57)) w2.heap.size (C8 ts) 0:=by
 have hk:(w2.setCell ⟨w.heap.size+1,0,none⟩ v).ownsRow B 45 2 (.slice A ts.length cap) ts.length (X8 ts):=by
  refine World.ownsRow.kept h (Z0.set (r:=w.heap.size+1)) ?_
  cases e:(Value.slice A ts.length cap).ownBlock with
  | none=>exact .inl rfl
  | some k=>exact .inr (fun e'=>by have:=(h.lt k e).1;injection e' with e';omega)
 exact Yh2 hk hl (by simp [World.setCell])
theorem Vi {w w2 w3 w4:World} (h:Below w.heap.size w w2) (m:Z0 (w.heap.size+1) w2 w3) (m':Z0 w2.heap.size w3 w4) (hlt:w.heap.size+2≤w2.heap.size):Below w.heap.size w w4:=
 ⟨m'.os.trans (m.os.trans h.os),m'.tape.trans (m.tape.trans h.tape),m'.output.trans (m.output.trans h.output),Nat.le_trans h.size (Nat.le_trans m.size m'.size),fun k hk=>(m'.block k (by have:=m.size;omega) (fun e=>by injection e;omega)).trans ((m.block k (by omega) (fun e=>by injection e;omega)).trans (h.block k hk))⟩
def Ygd (r:Nat) (fx:Bool) (p1:Nat) (w:World):Prop:=w.heap[p1]? = some (.cells #[.bool fx] 4 (0,0))∧p1 ≠ r
theorem Ygd.moved {r:Nat} {fx:Bool} {p1:Nat} {w w':World} (h:Ygd r fx p1 w) (m:Z0 r w w'):Ygd r fx p1 w':=⟨m.keep h.1 h.2,h.2⟩
def NoX (_r:Nat) (_w:World):Prop:=True
theorem NoX.moved {r:Nat} {w w':World} (_h:NoX r w) (_m:Z0 r w w'):NoX r w':=trivial
theorem Yhi (fx:Bool) (p1 d:Nat) (ts:List Tok) (r:Nat) (w:World) (hG:Yn ts) (hd:d≤16) (hR:Rd w r ts d) (hK:KRd r w) (hX:Ygd r fx p1 w):Calls Tryz.prog 144 #[.pointer (some ⟨r,0,none⟩),.pointer (some ⟨p1,0,none⟩)] w (Ca r d w (N9 (fun p=>Gj p.1 p.2)) (Co fx d ts)):=by
 refine cQE (fun Q hQ=>?_);have HQ:=Hd hQ;have K0:=Hd (S0.start hR hK #[.string ⟨#[]⟩,.int .i64 0,.int .i64 0,.string ⟨#[]⟩,.slice none 0 0,.slice none 0 0] 151);obtain ⟨q1,_⟩:=Uf ((blw w (.cells #[.string ⟨#[]⟩,.int .i64 0,.int .i64 0,.string ⟨#[]⟩,.slice none 0 0,.slice none 0 0] 151)).block p1 (Array.getElem?_eq_some_iff.1 hX.1).1 |>.trans hX.1);have HG:=Hd hG;clear hQ hR hK hX hG
 go_enter Tryz.func144,Tryz.ntmps144
 go_wp2_with fail
 refine (Ygj fx d ts r _ HG.out hd K0.out.rd K0.out.k).mono ?_;intro e w1 h
 cases hv:Co fx d ts with
 | error x =>
   rw [hv] at h;obtain ⟨rfl,m⟩:=Ji h;exact ⟨rfl,HQ.out _ _ (per hv (K0.out.mv.trans m))⟩
 | ok p =>
   obtain ⟨a,ts1⟩:=p;rw [hv] at h;obtain ⟨⟨v,rfl,hl⟩,r1,m1⟩:=Uv h;obtain ⟨s0,i1,i2,s3,A4,n4,k4,A5,n5,k5,rfl,hts⟩:=Zv0 hl;have K1:=Hd (K0.out.next r1 m1);have T1:=Hd (OvS.of hts K0.out.lt);obtain ⟨y0,y1,y2,y3,y4,y5,yz⟩:=Zr K1.out.res;have z0:=yz 0;have z1:=yz 1;have z2:=yz 2;have z3:=yz 3;have z4:=yz 4;have z5:=yz 5;have HV:=Hd hv;clear r1 m1 hl hts h hv q1 yz;go_wp2_with fail
   obtain ⟨f1,f2,f3⟩:=S0.fin (ys:=[.string ⟨#[]⟩,.int .i64 0,.int .i64 0,.string ⟨#[]⟩,.slice none 0 0,.slice none 0 0]) K1.out [.string s0,.int .i64 i1,.int .i64 i2,.string s3,.slice A4 n4 k4,.slice A5 n5 k5] rfl;have FT:=T1.out.fin (w:=w) (Nat.le_refl _) [.string s0,.int .i64 i1,.int .i64 i2,.string s3,.slice A4 n4 k4,.slice A5 n5 k5];have FP:=HQ.out _ _ (Yy HV.out ⟨_,rfl,FT⟩ f2 f3);exact Y6 rfl rfl rfl f1 Tryz.underlying151 ⟨_,rfl⟩ (by kernel_rfl) FP
theorem Ypl:(Tryz.prog.info? 151).map (fun i=>(i.zero,i.size,i.bytes))=some (some (.agg #[.string ⟨#[]⟩,.int .i64 0,.int .i64 0,.string ⟨#[]⟩,.slice none 0 0,.slice none 0 0]),6,96):=by kernel_rfl
theorem Yfu (fx:Bool) (p1:Nat) (one:List Tok→Except Int ((ByteArray × VT) × List Tok)) (hS:∀ ts a r,one ts=.ok (a,r)→Sfx r ts) (r d:Nat) (ts:List Tok) (w:World)
  (HC:∀ tq wx,Yn tq→tq.length≤ts.length→Rd wx r tq d→KRd r wx→Ygd r fx p1 wx→Calls Tryz.prog 144 #[.pointer (some ⟨r,0,none⟩),.pointer (some ⟨p1,0,none⟩)] wx (Ca r d wx (N9 (fun p=>Gj p.1 p.2)) (one tq)))
  (hG:Yn ts) (hR:Rd w r ts d) (hK:KRd r w) (hX:Ygd r fx p1 w):Calls Tryz.prog 143 #[.pointer (some ⟨r,0,none⟩),.string cpB,.func (.func 144) #[] #[.pointer (some ⟨p1,0,none⟩)]] w (Ca r d w (Yfq F2) (I7 one Zzi cpB (ts.length+1) .nil ts)):=by
 refine cQE (fun Q hQ=>?_);obtain ⟨ti0,hi,hz0,hz1,hz2⟩:=info_parts Ypl;obtain ⟨RES,hRES⟩:∃ RES,I7 one Zzi cpB (ts.length+1) .nil ts=RES:=⟨_,rfl⟩;rw [hRES] at hQ;have HQ:=Hd hQ;have HRES:=Hd hRES;have HCC:=Hd HC;have HSS:=Hd hS;have hr:=hR.lt;have hlen:ts.length≤200000:=by obtain ⟨_,_,_,_,h,_⟩:=hR;exact h
 have PL:=Hd (Array.getElem?_eq_some_iff.1 hX.1).1;have B0:=Hd (And.intro hR (And.intro hK (And.intro hG hX)));clear hQ hRES HC hS hG hR hK hX
 go_enter Tryz.func143,Tryz.ntmps143
 go_wp2_with fail
 go_loopg [7] (ts.length+1) (fun g out wx=>∃ (acc:VM) (tq:List Tok),tq.length+1≤g∧tq.length≤ts.length∧(F2 acc).len+tq.length≤200000∧Aside (RTr 151 6 w.heap.size wx out (F2 acc)∧Z0 r w wx∧Rd wx r tq d∧KRd r wx∧Yn tq∧Ygd r fx p1 wx∧I7 one Zzi cpB g acc tq=RES))
 case atStart=>exact ⟨.nil,ts,Nat.le_refl _,Nat.le_refl _,by rw [show (F2 .nil).len=0 from (by rw [F2];rfl)];omega,Za ⟨(by rw [F2];exact RTr.start _ _ _ _),Z0.refl _ _,B0.out.1,B0.out.2.1,B0.out.2.2.1,B0.out.2.2.2,HRES.out⟩⟩
 case round =>
  obtain ⟨acc,tq,hq,hql,hal,HA⟩:=hrel;obtain ⟨hrt,hmx,hrx,hkx,hgx,hxx,hex⟩:=HA.out;obtain ⟨xs,P,hown,hvals,hP⟩:=hrt;obtain ⟨Ao,co,rfl⟩:=Xi hown;have KX:=Hd (And.intro hmx (And.intro hrx (And.intro hkx hxx)));have GX:=Hd hgx;have EX:=Hd hex;have HRT:=Hd (And.intro hown (And.intro hvals hP));clear HA hmx hrx hkx hgx hxx hex hown hvals hP
  cases gk with
  | zero=>omega
  | succ g =>
    go_wp2_with fail
    refine (HCC.out tq _ GX.out hql KX.out.2.1 KX.out.2.2.1 KX.out.2.2.2).mono ?_;intro e w2 h
    cases hv:one tq with
    | error x =>
      rw [hv] at h;obtain ⟨rfl,m⟩:=Ji h;exact ⟨rfl,HQ.out _ _ (per (by rw [← EX.out,I7,hv]) (KX.out.1.trans m))⟩
    | ok p =>
      obtain ⟨a,tq2⟩:=p;rw [hv] at h;obtain ⟨⟨v,rfl,hl⟩,r2,m2⟩:=Uv h;obtain ⟨s0,i1,i2,s3,A4,n4,k4,A5,n5,k5,rfl,hts⟩:=Zv0 hl;have hsf:=HSS.out _ _ _ hv;have hsl:=hsf.2;have G2:=Hd (GX.out.sub hsf.1);have M2:=Hd m2;have R2:=Hd r2;have T2:=Hd hts;have hs2:=m2.size;have hs0:=KX.out.1.size;have O2:=Hd (Yk HRT.out.1 m2 hr);have HV:=Hd hv;clear h hv hl hts r2 m2 hsf
      go_wp2_with (at_builtin;refine wpList_append_lies _ rfl _ _ 92 rfl w.heap.size 151 ti0 (.agg #[.string ⟨#[]⟩,.int .i64 0,.int .i64 0,.string ⟨#[]⟩,.slice none 0 0,.slice none 0 0]) 6 96 Tryz.underlying92 hi hz0 hz1 hz2 rfl (by decide) _ (F2 acc).len xs rfl (Yw O2.out (blw _ _)) _ 1 1 [.string s0,.int .i64 i1,.int .i64 i2,.string s3,.slice A4 n4 k4,.slice A5 n5 k5] rfl rfl (fun j u hj=>World.news_of_block (heap_alloc_new _ _) j u hj) (by intro y hy;simp at hy;rcases hy with rfl|rfl|rfl|rfl|rfl|rfl<;>rfl) (by decide) (by unfold maxLen;omega) (by omega) (by simp;omega) _ rfl ?_;intro gg cap2 w4 hown4 hgrow hat hlt4;have HG4:=Hd hgrow;have HO4:=Hd hown4;have HT4:=Hd hat;clear hgrow hown4 hat)
      have hgk:=J0 HG4.out (r:=r) (fun b hb=>by have:=(HRT.out.1.lt b hb).1;omega);have R4:=Hd (hgk.1 _ _ (R2.out.below (blw _ _)));have D4:=Hd (hgk.2 ((KX.out.2.2.1.moved M2.out).moved (Z0.of_below (blw _ _))))
      have M4:=Hd (show Z0 r w w4 from by
        have m:=(KX.out.1.trans M2.out).trans (Z0.of_below (blw _ (.cells #[.string s0,.int .i64 i1,.int .i64 i2,.string s3,.slice A4 n4 k4,.slice A5 n5 k5] 151)));exact ⟨HG4.out.os.trans m.os,HG4.out.tape.trans m.tape,HG4.out.output.trans m.output,Nat.le_trans m.size HG4.out.size,fun k hk hn=>(HG4.out.block k (Nat.lt_of_lt_of_le hk m.size) (fun e=>by have:=(HRT.out.1.lt k e.symm).1;omega)).trans (m.block k hk hn)⟩)
      have XA:=Hd ((KX.out.2.2.2.moved M2.out).moved (Z0.of_below (blw _ (.cells #[.string s0,.int .i64 i1,.int .i64 i2,.string s3,.slice A4 n4 k4,.slice A5 n5 k5] 151))));have hp1:=PL.out;have X4:=Hd (show Ygd r fx p1 w4 from ⟨(HG4.out.block p1 (by have:=(Array.getElem?_eq_some_iff.1 XA.out.1).1;omega) (fun e=>by have:=(HRT.out.1.lt p1 e.symm).1;omega)).trans XA.out.1,XA.out.2⟩);have T4:=Hd (RTr.app hr (by omega) HRT.out.1 HRT.out.2.1 HRT.out.2.2 M2.out (TS.keep (fun _ hk=>⟨⟨hk.1,hk.2⟩,rfl⟩) _ _ T2.out) HO4.out HG4.out HT4.out);clear hgk;go_wp2_with fail
      refine (Yg r tq2 d 1 cpB _ R4.out).mono ?_;intro e w5 h5;have hE:=EX.out;rw [I7,HV.out] at hE;simp only at hE
      cases hb:atB 1 cpB tq2 with
      | true =>
        rw [hb] at h5 hE;obtain ⟨rfl,r5,m5⟩:=h5;rw [Jq hb] at r5;simp only [if_true] at hE;have T5:=Hd ((T4.out.moved m5 hr).fin (by rw [TrL.snoc_len];omega));have R5:=Hd r5;have M5:=Hd (M4.out.trans m5);have E5:=Hd hE;clear r5 m5 hE hb;go_wp2_with fail
        exact HQ.out _ _ (Yy E5.out.symm (show TP _ _ (.row (F2 (Zzi acc a))) _ by rw [show F2 (Zzi acc a)=(F2 acc).snoc ((fun p=>Gj p.1 p.2) a) from Fg _ _ _];exact T5.out) R5.out M5.out)
      | false =>
        rw [hb] at h5 hE;obtain ⟨rfl,r5,m5⟩:=h5;rw [Uh hb] at r5;simp only [Bool.false_eq_true,if_false] at hE;have T5:=Hd (T4.out.moved m5 hr);have R5:=Hd r5;have M5:=Hd (M4.out.trans m5);have X5:=Hd (X4.out.moved m5);have D5:=Hd (D4.out.moved m5);have E5:=Hd hE;clear r5 m5 hE hb;go_wp2_with fail
        go_roundg g
        case measure=>omega
        case rel=>exact ⟨Zzi acc a,tq2,by omega,by omega,by rw [show F2 (Zzi acc a)=(F2 acc).snoc ((fun p=>Gj p.1 p.2) a) from Fg _ _ _,TrL.snoc_len];omega,Za ⟨by rw [show F2 (Zzi acc a)=(F2 acc).snoc ((fun p=>Gj p.1 p.2) a) from Fg _ _ _];exact T5.out,M5.out,R5.out,D5.out,G2.out,X5.out,E5.out⟩⟩
def Yci {α:Type} (lay:World→(Nat→Prop)→α→Value→Prop):Prop:=∀ (w:World) (P P':Nat→Prop) (a:α) (v:Value),(∀ b,P b→P' b)→lay w P a v→lay w P' a v
theorem Ydn {α:Type} (enc:α→TrL):Yci (Yfq enc):=fun _ _ _ _ _ hP h=>TP.keep (fun b hb=>⟨hP b hb,rfl⟩) _ _ h
theorem Ynj {α:Type} {r d:Nat} {w w1 w':World} {lay:World→(Nat→Prop)→α→Value→Prop} {R:Except Int (α × List Tok)} {e:Ending} (hl:Yci lay) (m:Z0 r w w1) (h:Ca r d w1 lay R e w'):Ca r d w lay R e w':=by
 cases R with
 | error x=>exact ⟨h.1,m.trans h.2⟩
 | ok p =>
   obtain ⟨a,ts'⟩:=p;obtain ⟨⟨v,e1,h1⟩,h2,h3⟩:=Uv h;exact ⟨⟨v,e1,hl _ _ _ _ _ (fun b hb=>⟨Nat.le_trans m.size hb.1,hb.2⟩) h1⟩,h2,m.trans h3⟩
theorem Dj (w:World) (o o':Obj):((w.alloc o).alloc o').heap[w.heap.size]? = some o∧((w.alloc o).alloc o').heap[w.heap.size+1]? = some o':=
 ⟨(Below.heap_alloc _ _ _ (by simp)).trans (heap_alloc_new _ _),heap_alloc2_new _ _ _⟩
theorem Yic (fx:Bool) (d:Nat) (ts:List Tok) (r:Nat) (w:World) (hG:Yn ts) (hd:d≤16) (hR:Rd w r ts d) (hK:KRd r w):Calls Tryz.prog 115 #[.pointer (some ⟨r,0,none⟩),.bool fx] w (Ca r d w (Yfq F2) (U8 fx d ts)):=by
 refine cQE (fun Q hQ=>?_);have HQ:=Hd hQ;have hr:=hR.lt;have B0:=Hd (blw w (.cells #[.bool fx] 4));have X0:=Hd (show Ygd r fx w.heap.size _ from ⟨heap_alloc_new w (.cells #[.bool fx] 4),by omega⟩);have R0:=Hd (hR.below B0.out);have D0:=Hd (hK.moved (Z0.of_below B0.out));have HG:=Hd hG;have M0:=Hd (Z0.of_below (r:=r) B0.out);obtain ⟨q0,_⟩:=Uf X0.out.1;clear hQ hR hK hG
 go_enter Tryz.func115,Tryz.ntmps115
 go_wp2_with fail
 refine (Yg r ts d 1 opB _ R0.out).mono ?_;intro e w1 h
 cases hb:atB 1 opB ts with
 | false =>
   rw [hb] at h;obtain ⟨rfl,r1,m1⟩:=h;rw [Uh hb] at r1;have R1:=Hd (And.intro r1 (M0.out.trans m1));have HB:=Hd hb;clear r1 m1 hb;go_wp2_with fail
   exact HQ.out _ _ (Yy (by unfold U8;rw [HB.out];rfl) (show TP _ _ (.row (F2 .nil)) _ by rw [F2];exact TP.none _ _) R1.out.1 R1.out.2)
 | true =>
   rw [hb] at h;obtain ⟨rfl,r1,m1⟩:=h;rw [Jq hb] at r1;have R1:=Hd (And.intro r1 (M0.out.trans m1));have X1:=Hd (X0.out.moved m1);have D1:=Hd (D0.out.moved m1);have HB:=Hd hb;obtain ⟨q1,_⟩:=Uf X1.out.1;clear r1 m1 hb q0;go_wp2_with fail
   refine (Yfu fx w.heap.size (Co fx d) (fun _ _ _ h=>B8 h) r d ts.tail w1 (fun tq wx g _ hx hk hX=>Yhi fx _ d tq r wx g hd hx hk hX) (HG.out.sub (Zn HB.out).1) R1.out.1 D1.out X1.out).mono ?_;intro e w2 h;have hA:U8 fx d ts=I7 (Co fx d) Zzi cpB (ts.tail.length+1) .nil ts.tail:=by unfold U8;rw [HB.out];rfl
   rw [← hA] at h;have h:=Ynj (Ydn _) R1.out.2 h
   cases hv:U8 fx d ts with
   | error x =>
     rw [hv] at h;obtain ⟨rfl,m⟩:=Ji h;exact ⟨rfl,HQ.out _ _ (per hv m)⟩
   | ok p =>
     obtain ⟨l,ts1⟩:=p;rw [hv] at h;obtain ⟨⟨v,rfl,hl⟩,r2,m2⟩:=Uv h;obtain ⟨A,c,rfl,hl2⟩:=Us hl;have F:=Hd (And.intro hl2 (And.intro r2 m2));have HV:=Hd hv;clear h hv hl hl2 r2 m2 hA;go_wp2_with fail
     exact HQ.out _ _ (Yy HV.out F.out.1 F.out.2.1 F.out.2.2)
theorem Yny:(Tryz.prog.info? 131).map (fun i=>(i.zero,i.size,i.bytes))=some (some (.agg #[.string ⟨#[]⟩,.slice none 0 0]),2,40):=by kernel_rfl
theorem Yc8 {fx:Bool} {d g:Nat} {acc:List Wg} {ts:List Tok} (h:atB 1 Zzg ts=false):Gb fx d (g+1) acc ts=.ok (acc,ts):=by rw [Gb,if_neg (by rw [h];simp)]
theorem Ygq {fx:Bool} {d g:Nat} {acc:List Wg} {ts:List Tok} (h:atB 1 Zzg ts=true):Gb fx d (g+1) acc ts=(match Zg ts.tail with
 | none=>.error 2
 | some (n,r) =>
   match U8 fx d r with
   | .error x=>.error x
   | .ok (m,r2)=>Gb fx d g (acc++[(n,m)]) r2):=by rw [Gb,if_pos h];rfl
theorem Yji (fx:Bool) (d:Nat) (ts:List Tok) (r:Nat) (w:World) (hG:Yn ts) (hd:d≤16) (hR:Rd w r ts d) (hK:KRd r w):Calls Tryz.prog 87 #[.pointer (some ⟨r,0,none⟩),.bool fx] w (Ca r d w (Yfq (Z5 Dd)) (Dh fx d ts)):=by
 refine cQE (fun Q hQ=>?_);obtain ⟨i0,hi,hz0,hz1,hz2⟩:=info_parts Yny;obtain ⟨RES,hRES⟩:∃ RES,Dh fx d ts=RES:=⟨_,rfl⟩;rw [hRES] at hQ;have HQ:=Hd hQ;have HRES:=Hd hRES;have hr:=hR.lt;have hlen:ts.length≤200000:=by obtain ⟨_,_,_,_,h,_⟩:=hR;exact h
 have B0:=Hd (And.intro hR (And.intro hK hG));clear hQ hRES hG hR hK
 go_enter Tryz.func87,Tryz.ntmps87
 go_wp2_with fail
 go_loopg [5] (ts.length+1) (fun g out wx=>∃ (acc:List Wg) (tq:List Tok),tq.length+1≤g∧tq.length≤ts.length∧acc.length+tq.length≤200000∧Aside (RTr 131 2 w.heap.size wx out (Z5 Dd acc)∧Z0 r w wx∧Rd wx r tq d∧KRd r wx∧Yn tq∧Gb fx d g acc tq=RES))
 case atStart=>exact ⟨[],ts,Nat.le_refl _,Nat.le_refl _,by simpa using hlen,Za ⟨RTr.start _ _ _ _,Z0.refl _ _,B0.out.1,B0.out.2.1,B0.out.2.2,HRES.out⟩⟩
 case round =>
  obtain ⟨acc,tq,hq,hql,hal,HA⟩:=hrel;obtain ⟨hrt,hmx,hrx,hkx,hgx,hex⟩:=HA.out;obtain ⟨Ao,co,rfl⟩:=hrt.shape;have KX:=Hd (And.intro hmx (And.intro hrx hkx));have GX:=Hd hgx;have EX:=Hd hex;have HRT:=Hd hrt;clear HA hmx hrx hkx hgx hex hrt
  cases gk with
  | zero=>omega
  | succ g =>
    go_wp2_with fail
    refine (Yg r tq d 1 Zzg _ KX.out.2.1).mono ?_;intro e w1 h
    cases hb:atB 1 Zzg tq with
    | false =>
      rw [hb] at h;obtain ⟨rfl,r1,m1⟩:=h;rw [Uh hb] at r1;have hE:=EX.out;rw [Yc8 hb] at hE;have T5:=Hd ((HRT.out.moved m1 hr).fin (by rw [Zl];omega));have R1:=Hd (And.intro r1 (KX.out.1.trans m1));have E5:=Hd hE;clear r1 m1 hE hb;go_wp2_with fail
      exact HQ.out _ _ (Yy E5.out.symm T5.out R1.out.1 R1.out.2)
    | true =>
      rw [hb] at h;obtain ⟨rfl,r1,m1⟩:=h;rw [Jq hb] at r1;have hE:=EX.out;rw [Ygq hb] at hE;have G1:=Hd (GX.out.sub (Zn hb).1);have hl1:=(Zn hb).2;have R1:=Hd (And.intro r1 m1);have E1:=Hd hE;clear r1 m1 hE hb;go_wp2_with fail
      refine (Yr r tq.tail d _ R1.out.1).mono ?_;intro e w2 h
      cases hn:Zg tq.tail with
      | none =>
        rw [hn] at h;obtain ⟨rfl,m⟩:=h;have hE:=E1.out;rw [hn] at hE;exact ⟨rfl,HQ.out _ _ (per hE.symm ((KX.out.1.trans R1.out.2).trans m))⟩
      | some p =>
        obtain ⟨nm,tq2⟩:=p;rw [hn] at h;obtain ⟨rfl,r2,m2⟩:=h;have hE:=E1.out;rw [hn] at hE;simp only at hE;have G2:=Hd (G1.out.sub (Zt hn).1);have hl2:=(Zt hn).2;have hnm:=Hd (G1.out.name hn);have R2:=Hd (And.intro r2 (R1.out.2.trans m2));have E2:=Hd hE;clear r2 m2 hE hn;go_wp2_with fail
        refine (Yic fx d tq2 r _ G2.out hd R2.out.1 (KX.out.2.2.moved R2.out.2)).mono ?_;intro e w3 h
        cases hv:U8 fx d tq2 with
        | error x =>
          rw [hv] at h;obtain ⟨rfl,m⟩:=Ji h;have hE:=E2.out;rw [hv] at hE;exact ⟨rfl,HQ.out _ _ (per hE.symm ((KX.out.1.trans R2.out.2).trans m))⟩
        | ok p =>
          obtain ⟨l,tq3⟩:=p;rw [hv] at h;obtain ⟨⟨v,rfl,hl⟩,r3,m3⟩:=Uv h;obtain ⟨A,c,rfl,hl2'⟩:=Us hl;have hE:=E2.out;rw [hv] at hE;simp only at hE;have hl3:=(Fp hv).length_le;have G3:=Hd (G2.out.sub (Fp hv));have M3:=Hd (R2.out.2.trans m3);have R3:=Hd r3;have E3:=Hd hE;have T3:=Hd (TS.str hnm.out (TS.row (TP.keep (fun b hb=>⟨⟨Nat.le_trans R2.out.2.size hb.1,hb.2⟩,rfl⟩) _ _ hl2') (TS.nil _ _)):TS w3 (Y7 wr w3) (Dd (nm,l)) [.string nm,.slice A (F2 l).len c]);have hs3:=M3.out.size;have hs0:=KX.out.1.size;obtain ⟨xs,P,hown,hvals,hP⟩:=HRT.out;have HOW:=Hd (And.intro hown (And.intro hvals hP));have O3:=Hd (Yk hown M3.out hr);clear h hv hl hl2' r3 m3 hE hown hvals hP
          go_wp2_with (at_builtin;refine wpList_append_lies _ rfl _ _ 71 rfl w.heap.size 131 i0 (.agg #[.string ⟨#[]⟩,.slice none 0 0]) 2 40 Tryz.underlying71 hi hz0 hz1 hz2 rfl (by decide) _ (Z5 Dd acc).len xs rfl (Yw O3.out (blw _ _)) _ 1 1 [.string nm,.slice A (F2 l).len c] rfl rfl (fun j u hj=>World.news_of_block (heap_alloc_new _ _) j u hj) (by intro y hy;simp at hy;rcases hy with rfl|rfl<;>rfl) (by decide) (by unfold maxLen;rw [Zl];omega) (by rw [Zl];omega) (by simp;omega) _ rfl ?_;intro gg cap2 w4 hown4 hgrow hat hlt4;have HG4:=Hd hgrow;have HO4:=Hd hown4;have HT4:=Hd hat;clear hgrow hown4 hat)
          have hgk:=J0 HG4.out (r:=r) (fun b hb=>by have:=(HOW.out.1.lt b hb).1;omega);have R4:=hgk.1 _ _ (R3.out.below (blw _ _));have D4:=hgk.2 ((KX.out.2.2.moved M3.out).moved (Z0.of_below (blw _ _)))
          have M4:Z0 r w w4:=by
           have m:=(KX.out.1.trans M3.out).trans (Z0.of_below (blw _ (.cells #[.string nm,.slice A (F2 l).len c] 131)));exact ⟨HG4.out.os.trans m.os,HG4.out.tape.trans m.tape,HG4.out.output.trans m.output,Nat.le_trans m.size HG4.out.size,fun k hk hn=>(HG4.out.block k (Nat.lt_of_lt_of_le hk m.size) (fun e=>by have:=(HOW.out.1.lt k e.symm).1;omega)).trans (m.block k hk hn)⟩
          have T4:=RTr.app hr (by omega) HOW.out.1 HOW.out.2.1 HOW.out.2.2 M3.out (TS.keep (fun _ hk=>⟨⟨hk.1,hk.2⟩,rfl⟩) _ _ T3.out) HO4.out HG4.out HT4.out
          go_roundg g
          case measure=>omega
          case rel=>exact ⟨acc++[(nm,l)],tq3,by omega,by omega,by rw [List.length_append];simp;omega,Za ⟨by rw [Zx];exact T4,M4,R4,D4,G3.out,E3.out⟩⟩
theorem Ye9 (w:World) (P:Nat→Prop):TS w P (M9 Qf) [.int .i64 0,.int .i64 0,.string ⟨#[]⟩,.slice none 0 0,.slice none 0 0]:=Ydj _ _ _ _ _ _ (Sa w P 0 0 eB (Nat.zero_le _))
def V0 (d:Nat) (ts:List Tok):Except Int (Cb × List Tok):=
 match Zg ts with
 | none=>.error 2
 | some (n,r) =>
   if atB 1 Xj r=true then
    match Zj 4 r.tail with
    | .error x=>.error x
    | .ok (t,r2) =>
      if atB 1 eqB r2=true then
       match Im true d r2.tail with
       | .error x=>.error x
       | .ok (v,r3)=>.ok (⟨n,t.1,t.2.1,t.2.2,true,v⟩,r3)
      else .ok (⟨n,t.1,t.2.1,t.2.2,false,Qf⟩,r2)
   else .error 2
theorem Yds (d:Nat) (ts:List Tok):Yi2 d ts=if atB 1 J5 ts=true then V0 d ts.tail else .error 2:=rfl
theorem Yde {d:Nat} {ts r:List Tok} {x:Cb} (h:V0 d ts=.ok (x,r)):Sfx r ts:=by
 unfold V0 at h
 cases hn:Zg ts with
 | none=>rw [hn] at h;cases h
 | some q =>
   obtain ⟨n,r1⟩:=q;rw [hn] at h;simp only at h
   split at h
   · rename_i hc
     cases ht:Zj 4 r1.tail with
     | error x=>rw [ht] at h;cases h
     | ok q =>
       obtain ⟨t,r2⟩:=q;rw [ht] at h;simp only at h;have h0:=((B9 _ _ _ _ ht).trans (Zn hc)).trans (Zt hn)
       split at h
       · rename_i he
         cases hv:Im true d r2.tail with
         | error x=>rw [hv] at h;cases h
         | ok q =>
           obtain ⟨v,r3⟩:=q;rw [hv] at h;have e:=(Prod.mk.inj (Except.ok.inj h)).2;subst e;exact ((Qw hv).trans (Zn he)).trans h0
       · have e:=(Prod.mk.inj (Except.ok.inj h)).2
         subst e;exact h0
   · cases h
theorem Yb4 (d:Nat) (ts:List Tok) (r:Nat) (w:World) (hG:Yn ts) (hd:d≤16) (hR:Rd w r ts d) (hK:KRd r w):Calls Tryz.prog 89 #[.pointer (some ⟨r,0,none⟩)] w (Ca r d w (N9 Zk) (V0 d ts)):=by
 refine cQE (fun Q hQ=>?_);have HQ:=Hd hQ;have K0:=Hd (S0.start hR hK #[.string ⟨#[]⟩,.string ⟨#[]⟩,.int .i64 0,.int .i64 0,.bool false,.int .i64 0,.int .i64 0,.string ⟨#[]⟩,.slice none 0 0,.slice none 0 0] 96);have G0:=Hd hG;clear hQ hR hK hG
 go_enter Tryz.func89,Tryz.ntmps89
 go_wp2_with fail
 refine (Yr r (ts) d _ K0.out.rd).mono ?_;intro e w1 h
 cases hn:Zg (ts) with
 | none =>
   rw [hn] at h;obtain ⟨rfl,m⟩:=h;exact ⟨rfl,HQ.out _ _ (per (by simp only [V0,hn]) (K0.out.mv.trans m))⟩
 | some p =>
   obtain ⟨nm,tn1⟩:=p;rw [hn] at h;obtain ⟨rfl,rr,mm⟩:=h;have Nnm:=Hd (G0.out.name hn);have G2:=Hd (G0.out.sub (Zt hn).1);have E3:=Hd hn;have K4:=Hd (K0.out.next rr mm);clear rr mm hn;go_wp2_with fail
   have K5:=Hd (S1.make K4.out #[.string nm,.string ⟨#[]⟩,.int .i64 0,.int .i64 0,.bool false,.int .i64 0,.int .i64 0,.string ⟨#[]⟩,.slice none 0 0,.slice none 0 0] 96);refine (Xa r tn1 d 1 Xj _ K5.out.rd).mono ?_;intro e w6 h
   cases hb:atB 1 Xj tn1 with
   | false =>
     rw [hb] at h;simp only [Bool.false_eq_true,if_false] at h;obtain ⟨rfl,m⟩:=h;exact ⟨rfl,HQ.out _ _ (per (by simp only [V0,E3.out,hb,if_false,Bool.false_eq_true]) (K5.out.mv.trans m))⟩
   | true =>
     rw [hb] at h;simp only [if_true] at h;obtain ⟨rfl,rr,mm⟩:=h;have G7:=Hd (G2.out.sub (Zn hb).1);have E8:=Hd hb;have K9:=Hd (K5.out.next rr mm);clear rr mm hb;go_wp2_with fail
     refine (Bu tn1.tail G7.out.2 r d _ K9.out.rd).mono ?_;intro e w10 h
     cases hv:Zj 4 (tn1.tail) with
     | error x =>
       rw [hv] at h;obtain ⟨rfl,m⟩:=id h;exact ⟨rfl,HQ.out _ _ (per (by simp only [V0,E3.out,E8.out,hv,if_true]) (K9.out.mv.trans m))⟩
     | ok p =>
       obtain ⟨⟨tn,tl,tm⟩,tp10⟩:=p;rw [hv] at h;obtain ⟨rfl,rr,mm⟩:=h;have NT:=Hd (Em 4 _ G7.out.2 _ _ _ _ hv).2.1;have G11:=Hd (G7.out.sub (B9 4 _ _ _ hv).1);have K12:=Hd (K9.out.next rr mm);have E13:=Hd hv;clear rr mm hv;obtain ⟨y0,y1,y2,y3,y4,y5,y6,y7,y8,y9,yz⟩:=X9 K12.out.loc;have yf0:=yz 0;have yf1:=yz 1;have yf2:=yz 2;have yf3:=yz 3;have yf4:=yz 4;have yf5:=yz 5;have yf6:=yz 6;have yf7:=yz 7;have yf8:=yz 8;have yf9:=yz 9;clear yz;go_wp2_with fail
       clear y0 y1 y2 y3 y4 y5 y6 y7 y8 y9 yf0 yf1 yf2 yf3 yf4 yf5 yf6 yf7 yf8 yf9;have K14:Hid (S1 w r (((w10.setCell ⟨w1.heap.size,1,none⟩ (.string tn)).setCell ⟨w1.heap.size,2,none⟩ (.int .i64 (tl:Int))).setCell ⟨w1.heap.size,3,none⟩ (.int .i64 (tm:Int))) _ (w1.heap.size) (.cells #[.string nm,.string tn,.int .i64 (tl:Int),.int .i64 (tm:Int),.bool false,.int .i64 0,.int .i64 0,.string ⟨#[]⟩,.slice none 0 0,.slice none 0 0] 96 (0,0)) _ d):=Hd (((K12.out.put 1 (.string tn)).put 2 (.int .i64 (tl:Int))).put 3 (.int .i64 (tm:Int)));refine (Yg r tp10 d 1 eqB _ K14.out.rd).mono ?_;intro e w15 h
       cases hb:atB 1 eqB tp10 with
       | true =>
         rw [hb] at h;obtain ⟨rfl,rr,mm⟩:=h;rw [Jq hb] at rr;have G16:=Hd (G11.out.sub (Zn hb).1);have E17:=Hd hb;have K18:=Hd (K14.out.next rr mm);clear rr mm hb;obtain ⟨y0,y1,y2,y3,y4,y5,y6,y7,y8,y9,yz⟩:=X9 K18.out.loc;have yf0:=yz 0;have yf1:=yz 1;have yf2:=yz 2;have yf3:=yz 3;have yf4:=yz 4;have yf5:=yz 5;have yf6:=yz 6;have yf7:=yz 7;have yf8:=yz 8;have yf9:=yz 9;clear yz;go_wp2_with fail
         clear y0 y1 y2 y3 y4 y5 y6 y7 y8 y9 yf0 yf1 yf2 yf3 yf4 yf5 yf6 yf7 yf8 yf9;have K19:Hid (S1 w r (w15.setCell ⟨w1.heap.size,4,none⟩ (.bool true)) _ (w1.heap.size) (.cells #[.string nm,.string tn,.int .i64 (tl:Int),.int .i64 (tm:Int),.bool true,.int .i64 0,.int .i64 0,.string ⟨#[]⟩,.slice none 0 0,.slice none 0 0] 96 (0,0)) _ d):=Hd (K18.out.put 4 (.bool true));refine (Yh8 true d (tp10.tail) r _ G16.out hd K19.out.rd K19.out.k).mono ?_;intro e w20 h
         cases hv:Im true d (tp10.tail) with
         | error x =>
           rw [hv] at h;obtain ⟨rfl,m⟩:=Ji h;exact ⟨rfl,HQ.out _ _ (per (by simp only [V0,E3.out,E8.out,E13.out,E17.out,hv,if_true]) (K19.out.mv.trans m))⟩
         | ok p =>
           obtain ⟨v0,tp20⟩:=p;rw [hv] at h;obtain ⟨⟨v,rfl,hl⟩,rr,mm⟩:=Uv h;obtain ⟨vk,vn,vs,A3,n3,k3,A4,n4,k4,rfl,hts⟩:=Yhf hl;have G21:=Hd (G16.out.sub (Qw hv).1);have K22:=Hd (K19.out.next rr mm);have O23:=Hd (OvS.of hts K19.out.blt);have E24:=Hd hv;clear rr mm hv hl hts h;obtain ⟨y0,y1,y2,y3,y4,y5,y6,y7,y8,y9,yz⟩:=X9 K22.out.loc;have yf0:=yz 0;have yf1:=yz 1;have yf2:=yz 2;have yf3:=yz 3;have yf4:=yz 4;have yf5:=yz 5;have yf6:=yz 6;have yf7:=yz 7;have yf8:=yz 8;have yf9:=yz 9;clear yz
           go_upto_region 7 with fail
           clear y0 y1 y2 y3 y4 y5 y6 y7 y8 y9 yf0 yf1 yf2 yf3 yf4 yf5 yf6 yf7 yf8 yf9;have K25:Hid (S1 w r (((((w20.setCell ⟨w1.heap.size,5,none⟩ (.int .i64 vk)).setCell ⟨w1.heap.size,6,none⟩ (.int .i64 vn)).setCell ⟨w1.heap.size,7,none⟩ (.string vs)).setCell ⟨w1.heap.size,8,none⟩ (.slice A3 n3 k3)).setCell ⟨w1.heap.size,9,none⟩ (.slice A4 n4 k4)) _ (w1.heap.size) (.cells #[.string nm,.string tn,.int .i64 (tl:Int),.int .i64 (tm:Int),.bool true,.int .i64 vk,.int .i64 vn,.string vs,.slice A3 n3 k3,.slice A4 n4 k4] 96 (0,0)) _ d):=Hd (((((K22.out.put 5 (.int .i64 vk)).put 6 (.int .i64 vn)).put 7 (.string vs)).put 8 (.slice A3 n3 k3)).put 9 (.slice A4 n4 k4));have O26:Hid (OvS (w1.heap.size) (((((w20.setCell ⟨w1.heap.size,5,none⟩ (.int .i64 vk)).setCell ⟨w1.heap.size,6,none⟩ (.int .i64 vn)).setCell ⟨w1.heap.size,7,none⟩ (.string vs)).setCell ⟨w1.heap.size,8,none⟩ (.slice A3 n3 k3)).setCell ⟨w1.heap.size,9,none⟩ (.slice A4 n4 k4)) _ _):=Hd (((((O23.out.put (i:=5) (v:=.int .i64 vk) (Nat.le_refl _)).put (i:=6) (v:=.int .i64 vn) (Nat.le_refl _)).put (i:=7) (v:=.string vs) (Nat.le_refl _)).put (i:=8) (v:=.slice A3 n3 k3) (Nat.le_refl _)).put (i:=9) (v:=.slice A4 n4 k4) (Nat.le_refl _));generalize (((((w20.setCell ⟨w1.heap.size,5,none⟩ (.int .i64 vk)).setCell ⟨w1.heap.size,6,none⟩ (.int .i64 vn)).setCell ⟨w1.heap.size,7,none⟩ (.string vs)).setCell ⟨w1.heap.size,8,none⟩ (.slice A3 n3 k3)).setCell ⟨w1.heap.size,9,none⟩ (.slice A4 n4 k4))=wz27 at K25 O26 ⊢;obtain ⟨y0,y1,y2,y3,y4,y5,y6,y7,y8,y9,yz⟩:=X9 K25.out.loc;have yf0:=yz 0;have yf1:=yz 1;have yf2:=yz 2;have yf3:=yz 3;have yf4:=yz 4;have yf5:=yz 5;have yf6:=yz 6;have yf7:=yz 7;have yf8:=yz 8;have yf9:=yz 9;clear yz;obtain ⟨x0,x1,x2,x3,x4,x5,x6,x7,x8,x9,xz⟩:=X9 K25.out.res;have xf0:=xz 0;have xf1:=xz 1;have xf2:=xz 2;have xf3:=xz 3;have xf4:=xz 4;have xf5:=xz 5;have xf6:=xz 6;have xf7:=xz 7;have xf8:=xz 8;have xf9:=xz 9;clear xz;go_wp2_with fail
           clear y0 y1 y2 y3 y4 y5 y6 y7 y8 y9 yf0 yf1 yf2 yf3 yf4 yf5 yf6 yf7 yf8 yf9 x0 x1 x2 x3 x4 x5 x6 x7 x8 x9 xf0 xf1 xf2 xf3 xf4 xf5 xf6 xf7 xf8 xf9;obtain ⟨f1,f2,f3⟩:=S1.fin (ys:=[.string ⟨#[]⟩,.string ⟨#[]⟩,.int .i64 0,.int .i64 0,.bool false,.int .i64 0,.int .i64 0,.string ⟨#[]⟩,.slice none 0 0,.slice none 0 0]) K25.out [.string nm,.string tn,.int .i64 (tl:Int),.int .i64 (tm:Int),.bool true,.int .i64 vk,.int .i64 vn,.string vs,.slice A3 n3 k3,.slice A4 n4 k4] rfl;have Fv:=O26.out.fin (w:=w) (Nat.le_of_lt K25.out.bl) [.string nm,.string tn,.int .i64 (tl:Int),.int .i64 (tm:Int),.bool true,.int .i64 vk,.int .i64 vn,.string vs,.slice A3 n3 k3,.slice A4 n4 k4];have FP:=HQ.out _ _ (Yy (a:=⟨nm,tn,tl,tm,true,v0⟩) (by simp only [V0,E3.out,E8.out,E13.out,E17.out,E24.out,if_true]) ⟨[.string nm,.string tn,.int .i64 (tl:Int),.int .i64 (tm:Int),.bool true,.int .i64 vk,.int .i64 vn,.string vs,.slice A3 n3 k3,.slice A4 n4 k4],rfl,TS.str Nnm.out (TS.str NT.out (TS.int (TS.int (TS.bool Fv))))⟩ f2 f3);exact Y6 rfl rfl rfl f1 Tryz.underlying96 ⟨_,rfl⟩ (by kernel_rfl) FP
       | false =>
         rw [hb] at h;obtain ⟨rfl,rr,mm⟩:=h;rw [Uh hb] at rr;have E28:=Hd hb;have K29:=Hd (K14.out.next rr mm);clear rr mm hb;obtain ⟨y0,y1,y2,y3,y4,y5,y6,y7,y8,y9,yz⟩:=X9 K29.out.loc;have yf0:=yz 0;have yf1:=yz 1;have yf2:=yz 2;have yf3:=yz 3;have yf4:=yz 4;have yf5:=yz 5;have yf6:=yz 6;have yf7:=yz 7;have yf8:=yz 8;have yf9:=yz 9;clear yz;obtain ⟨x0,x1,x2,x3,x4,x5,x6,x7,x8,x9,xz⟩:=X9 K29.out.res;have xf0:=xz 0;have xf1:=xz 1;have xf2:=xz 2;have xf3:=xz 3;have xf4:=xz 4;have xf5:=xz 5;have xf6:=xz 6;have xf7:=xz 7;have xf8:=xz 8;have xf9:=xz 9;clear xz;go_wp2_with fail
         clear y0 y1 y2 y3 y4 y5 y6 y7 y8 y9 yf0 yf1 yf2 yf3 yf4 yf5 yf6 yf7 yf8 yf9 x0 x1 x2 x3 x4 x5 x6 x7 x8 x9 xf0 xf1 xf2 xf3 xf4 xf5 xf6 xf7 xf8 xf9;obtain ⟨f1,f2,f3⟩:=S1.fin (ys:=[.string ⟨#[]⟩,.string ⟨#[]⟩,.int .i64 0,.int .i64 0,.bool false,.int .i64 0,.int .i64 0,.string ⟨#[]⟩,.slice none 0 0,.slice none 0 0]) K29.out [.string nm,.string tn,.int .i64 (tl:Int),.int .i64 (tm:Int),.bool false,.int .i64 0,.int .i64 0,.string ⟨#[]⟩,.slice none 0 0,.slice none 0 0] rfl;have FP:=HQ.out _ _ (Yy (a:=⟨nm,tn,tl,tm,false,Qf⟩) (by simp only [V0,E3.out,E8.out,E13.out,E28.out,if_true,if_false,Bool.false_eq_true]) ⟨[.string nm,.string tn,.int .i64 (tl:Int),.int .i64 (tm:Int),.bool false,.int .i64 0,.int .i64 0,.string ⟨#[]⟩,.slice none 0 0,.slice none 0 0],rfl,TS.str Nnm.out (TS.str NT.out (TS.int (TS.int (TS.bool (Ye9 _ _)))))⟩ f2 f3);exact Y6 rfl rfl rfl f1 Tryz.underlying96 ⟨_,rfl⟩ (by kernel_rfl) FP
end Go.Proofs.YtkmloefbkgcbkaaGreatDoor
