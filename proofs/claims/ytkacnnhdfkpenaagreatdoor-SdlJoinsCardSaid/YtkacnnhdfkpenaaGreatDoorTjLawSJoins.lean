/- The walk of the law SdlJoins. (gen_lawsjoins.py wrote it.) -/
import Derived.Test.YtkacnnhdfkpenaaGreatDoorSj46
set_option maxRecDepth 100000
set_option maxHeartbeats 16000000
namespace Go.Proofs.YtkacnnhdfkpenaaGreatDoor.LSJoins
open Go.RowKit
def KJ (w:World) (ba bb bx:Nat) (x0 a0 b0:Value) (b O:Nat) (c0 c1 c2 c3 c4 c5:Value) (b' O':Nat) (d0 d1 d2 d3 d4 d5:Value) (W:World):Prop:=
 (W.cell? ⟨bx,0,none⟩=some x0∧W.cell? ⟨ba,0,none⟩=some a0∧W.cell? ⟨bb,0,none⟩=some b0∧W.cell? ⟨b,O,none⟩=some c0∧W.cell? ⟨b,O+1,none⟩=some c1∧W.cell? ⟨b,O+2,none⟩=some c2∧W.cell? ⟨b,O+3,none⟩=some c3∧W.cell? ⟨b,O+4,none⟩=some c4∧W.cell? ⟨b,O+5,none⟩=some c5∧W.cell? ⟨b',O',none⟩=some d0∧W.cell? ⟨b',O'+1,none⟩=some d1∧W.cell? ⟨b',O'+2,none⟩=some d2∧W.cell? ⟨b',O'+3,none⟩=some d3∧W.cell? ⟨b',O'+4,none⟩=some d4∧W.cell? ⟨b',O'+5,none⟩=some d5)∧Below w.heap.size w W
theorem KJ.next {w W:World} {ba bb bx:Nat} {x0 a0 b0:Value} {b O:Nat} {c0 c1 c2 c3 c4 c5:Value} {b' O':Nat} {d0 d1 d2 d3 d4 d5:Value} {W':World} (h:KJ w ba bb bx x0 a0 b0 b O c0 c1 c2 c3 c4 c5 b' O' d0 d1 d2 d3 d4 d5 W) (ha:ba < w.heap.size) (hc:bb < w.heap.size) (hx:bx < w.heap.size) (hl:b < w.heap.size) (hl':b' < w.heap.size) (hb:Below W.heap.size W W'):KJ w ba bb bx x0 a0 b0 b O c0 c1 c2 c3 c4 c5 b' O' d0 d1 d2 d3 d4 d5 W':=by
 obtain ⟨⟨h0,h1,h2,g0,g1,g2,g3,g4,g5,f0,f1,f2,f3,f4,f5⟩,hK⟩:=h
 have z:∀ n,n < w.heap.size→n < W.heap.size:=fun n hn=>Nat.lt_of_lt_of_le hn hK.size
 exact ⟨⟨(hb.cell (p:=⟨bx,_,none⟩) (z _ hx)).trans h0,(hb.cell (p:=⟨ba,_,none⟩) (z _ ha)).trans h1,(hb.cell (p:=⟨bb,_,none⟩) (z _ hc)).trans h2,(hb.cell (p:=⟨b,_,none⟩) (z _ hl)).trans g0,(hb.cell (p:=⟨b,_,none⟩) (z _ hl)).trans g1,(hb.cell (p:=⟨b,_,none⟩) (z _ hl)).trans g2,(hb.cell (p:=⟨b,_,none⟩) (z _ hl)).trans g3,(hb.cell (p:=⟨b,_,none⟩) (z _ hl)).trans g4,(hb.cell (p:=⟨b,_,none⟩) (z _ hl)).trans g5,(hb.cell (p:=⟨b',_,none⟩) (z _ hl')).trans f0,(hb.cell (p:=⟨b',_,none⟩) (z _ hl')).trans f1,(hb.cell (p:=⟨b',_,none⟩) (z _ hl')).trans f2,(hb.cell (p:=⟨b',_,none⟩) (z _ hl')).trans f3,(hb.cell (p:=⟨b',_,none⟩) (z _ hl')).trans f4,(hb.cell (p:=⟨b',_,none⟩) (z _ hl')).trans f5⟩,hK.trans (hb.mono hK.size)⟩
theorem KJ.written {w W:World} {ba bb bx:Nat} {x0 a0 b0:Value} {b O:Nat} {c0 c1 c2 c3 c4 c5:Value} {b' O':Nat} {d0 d1 d2 d3 d4 d5:Value} (h:KJ w ba bb bx x0 a0 b0 b O c0 c1 c2 c3 c4 c5 b' O' d0 d1 d2 d3 d4 d5 W):W.cell? ⟨bx,0,none⟩=some x0∧W.cell? ⟨ba,0,none⟩=some a0∧W.cell? ⟨bb,0,none⟩=some b0∧W.cell? ⟨b,O,none⟩=some c0∧W.cell? ⟨b,O+1,none⟩=some c1∧W.cell? ⟨b,O+2,none⟩=some c2∧W.cell? ⟨b,O+3,none⟩=some c3∧W.cell? ⟨b,O+4,none⟩=some c4∧W.cell? ⟨b,O+5,none⟩=some c5∧W.cell? ⟨b',O',none⟩=some d0∧W.cell? ⟨b',O'+1,none⟩=some d1∧W.cell? ⟨b',O'+2,none⟩=some d2∧W.cell? ⟨b',O'+3,none⟩=some d3∧W.cell? ⟨b',O'+4,none⟩=some d4∧W.cell? ⟨b',O'+5,none⟩=some d5∧KJ w ba bb bx x0 a0 b0 b O c0 c1 c2 c3 c4 c5 b' O' d0 d1 d2 d3 d4 d5 W:=by
 have h':=h
 obtain ⟨⟨h0,h1,h2,g0,g1,g2,g3,g4,g5,f0,f1,f2,f3,f4,f5⟩,hK⟩:=h
 exact ⟨h0,h1,h2,g0,g1,g2,g3,g4,g5,f0,f1,f2,f3,f4,f5,h'⟩
theorem res_ok {w w' W:World} {D:SchT} {x:Int} {A0:Option Addr} {n0 k0:Nat} {sq sm:ByteArray} (h:Res encSch [.slice none 0 0,.string ⟨#[]⟩,.string ⟨#[]⟩] w w' (.ok D) x [.slice A0 n0 k0,.string sq,.string sm]) (b:Below w'.heap.size w' W):x=0∧n0=D.defs.length∧sq=D.query∧sm=D.mutation∧D.defs.length≤9223372036854775807∧RowT W (fun b=>b < W.heap.size) (rowOf encDefn D.defs) A0:=by
 obtain ⟨h0,h1⟩:=h
 simp only [encSch,TS,TP] at h1
 obtain ⟨c0,_,e0,⟨Ao,ko,rfl,hol,hO⟩,c1,_,rfl,⟨rfl,_⟩,c2,_,rfl,⟨rfl,_⟩,rfl⟩:=h1
 rw [rowOf_len] at hol e0
 injection e0 with e0 e1
 injection e0 with q1 q2 q3
 injection e1 with e1 e2
 injection e2 with e2 _
 injection e1 with e1
 injection e2 with e2
 subst q1
 exact ⟨h0,q2,e1,e2,hol,RowT.keep (fun k h=>⟨Nat.lt_of_lt_of_le h.2 b.size,b.block k h.2⟩) _ _ hO⟩
theorem sch_len {ts:List Tok} {A:SchT} (hN:NoSch ts) (h:schR ts=.ok A):A.defs.length≤ts.length:=by
 obtain ⟨l,h1,rfl⟩:=sch_plain hN h
 clear h hN
 show l.length≤_
 obtain ⟨n,hn⟩:∃ n,ts.length=n:=⟨_,rfl⟩
 induction n using Nat.strongRecOn generalizing ts l with
 | ind n ih =>
   rw [sdsD_eq] at h1
   cases ho:oneS ts with
   | error x=>rw [ho] at h1;cases h1
   | ok q =>
     obtain ⟨x,r⟩:=q
     rw [ho] at h1
     simp only at h1
     have hs:=(str_oneS _ _ _ ho).2
     split at h1
     · cases h1;simp;omega
     · cases hd:sdsD r with
       | error e=>rw [hd] at h1;cases h1
       | ok m =>
         rw [hd] at h1
         cases h1
         have:=ih r.length (by omega) m hd rfl
         simp;omega
theorem walk (s t:ByteArray) (w:World) (hz:s.size≤9223372036854775807) (hz2:t.size≤9223372036854775807) (h3:Laid3 w) (h5:Laid5 w):Calls Tryz.prog 14 #[.string s,.string t] w fun e w'=>e=.returned (.bool true)∧Below w.heap.size w w':=by
 have HA:=fun wx (hb:Below w.heap.size w wx)=>Hd (sawake_any wx (h3.below hb) (h5.below hb))
 by_cases hs:4000 < s.size
 · have t1:decide ((4000:Int) < (s.size:Int))=true:=by simp;omega
   clear h3 h5
   go_enter Tryz.func14,Tryz.ntmps14
   go_wp2_with fail
   refine (HA _ (Below.refl _ _)).out.mono ?_
   rintro e w1 ⟨rfl,hb1⟩
   have B1:=Hd hb1
   clear hb1
   go_wp2_with fail
   go_ret
   exact ⟨rfl,B1.out⟩
 by_cases ht:4000 < t.size
 · have t1:decide ((4000:Int) < (s.size:Int))=false:=by simp;omega
   have t2:decide ((4000:Int) < (t.size:Int))=true:=by simp;omega
   clear h3 h5
   go_enter Tryz.func14,Tryz.ntmps14
   go_wp2_with fail
   refine (HA _ (Below.refl _ _)).out.mono ?_
   rintro e w1 ⟨rfl,hb1⟩
   have B1:=Hd hb1
   clear hb1
   go_wp2_with fail
   go_ret
   exact ⟨rfl,B1.out⟩
 have t1:decide ((4000:Int) < (s.size:Int))=false:=by simp;omega
 have t2:decide ((4000:Int) < (t.size:Int))=false:=by simp;omega
 have HS:=Hd (show s.size≤4000∧t.size≤4000 from ⟨by omega,by omega⟩)
 have HP:=fun (t:ByteArray) wx (hb:Below w.heap.size w wx) (ht:t.size≤9000)=>Hd (sread_any t wx ht (h3.below hb) (h5.below hb))
 have HR:=fun (t:ByteArray) wx (hb:Below w.heap.size w wx) (ht:t.size≤9000)=>Hd (rooted_any t wx ht (h3.below hb))
 clear h3 h5 hs ht
 obtain ⟨RA,hRA⟩:∃ R,wholeA schRr s.data.toList=R:=⟨_,rfl⟩
 obtain ⟨RB,hRB⟩:∃ R,wholeA schRr t.data.toList=R:=⟨_,rfl⟩
 have HRA:=Hd hRA
 have HRB:=Hd hRB
 clear hRA hRB
 go_enter Tryz.func14,Tryz.ntmps14
 go_wp2_with fail
 refine (HP s _ (Below.refl _ _) (by have:=HS.out;omega)).out.mono ?_
 rintro e w1 ⟨A0,n0,k0,sq,sm,x,rfl,hres,hb1⟩
 rw [HRA.out] at hres
 have RS1:=Hd hres
 have B1:=Hd hb1
 have B1a:=Hd (B1.out.alloc B1.out.size (.cells #[.slice A0 n0 k0,.string sq,.string sm] 55))
 have Y1:=Hd (heap_alloc_last w1 (.cells #[.slice A0 n0 k0,.string sq,.string sm] 55))
 have L1:=Hd (blw w1 (.cells #[.slice A0 n0 k0,.string sq,.string sm] 55))
 have Z1:=Hd (show (w1.alloc (.cells #[.slice A0 n0 k0,.string sq,.string sm] 55)).heap.size=w1.heap.size+1 by simp)
 clear hres hb1
 go_wp2_with fail
 refine (HP t _ B1a.out (by have:=HS.out;omega)).out.mono ?_
 rintro e w2 ⟨A0',n0',k0',sq',sm',x',rfl,hres,hb2⟩
 rw [HRB.out] at hres
 have RS2:=Hd hres
 have hlt1:w1.heap.size < w2.heap.size:=by have:=hb2.size;have:=Z1.out;omega
 have Y1b:=Hd ((hb2.block w1.heap.size (by rw [Z1.out];omega)).trans Y1.out)
 have L1b:=Hd (L1.out.trans (hb2.mono L1.out.size))
 have B2:=Hd (B1a.out.trans (hb2.mono B1a.out.size))
 have B2a:=Hd (B2.out.alloc B2.out.size (.cells #[.slice A0' n0' k0',.string sq',.string sm'] 55))
 have Y2:=Hd (heap_alloc_last w2 (.cells #[.slice A0' n0' k0',.string sq',.string sm'] 55))
 have L2:=Hd (blw w2 (.cells #[.slice A0' n0' k0',.string sq',.string sm'] 55))
 have Z2:=Hd (show (w2.alloc (.cells #[.slice A0' n0' k0',.string sq',.string sm'] 55)).heap.size=w2.heap.size+1 by simp)
 clear hres hb2
 cases RA with
 | error y =>
   obtain ⟨rfl,hy,hz⟩:=RS1.out
   clear hz
   have t3:(x != 0)=true:=by simpa using hy
   clear hy
   go_wp2_with fail
   refine (HA _ B2a.out).out.mono ?_
   rintro e w9 ⟨rfl,hb9⟩
   have B9:=Hd (B2a.out.trans (hb9.mono (B2a.out).size))
   clear hb9
   go_wp2_with fail
   go_ret
   exact ⟨rfl,B9.out⟩
 | ok A =>
   obtain rfl:x=0:=RS1.out.1
   cases RB with
   | error y =>
     obtain ⟨rfl,hy,hz⟩:=RS2.out
     clear hz
     have t3:(x' != 0)=true:=by simpa using hy
     clear hy
     go_wp2_with fail
     refine (HA _ B2a.out).out.mono ?_
     rintro e w9 ⟨rfl,hb9⟩
     have B9:=Hd (B2a.out.trans (hb9.mono (B2a.out).size))
     clear hb9
     go_wp2_with fail
     go_ret
     exact ⟨rfl,B9.out⟩
   | ok B =>
     obtain rfl:x'=0:=RS2.out.1
     go_wp2_with fail
     refine (HR s _ B2a.out (by have:=HS.out;omega)).out.mono ?_
     rintro e wp ⟨rfl,hbp⟩
     have BP:=Hd (B2a.out.trans (hbp.mono B2a.out.size))
     have LP2:=Hd hbp
     clear hbp
     cases hN:rootB (tokB (readS s.data.toList).1) with
     | true =>
       clear hN
       go_wp2_with fail
       refine (HA _ BP.out).out.mono ?_
       rintro e w9 ⟨rfl,hb9⟩
       have B9:=Hd (BP.out.trans (hb9.mono (BP.out).size))
       clear hb9
       go_wp2_with fail
       go_ret
       exact ⟨rfl,B9.out⟩
     | false =>
       have HN:=Hd hN
       clear hN
       go_wp2_with fail
       refine (HR t _ BP.out (by have:=HS.out;omega)).out.mono ?_
       rintro e wq ⟨rfl,hbq⟩
       have BQ:=Hd (BP.out.trans (hbq.mono BP.out.size))
       have LQ2:=Hd (LP2.out.trans (hbq.mono LP2.out.size))
       clear hbq
       cases hM:rootB (tokB (readS t.data.toList).1) with
       | true =>
         clear hM
         go_wp2_with fail
         refine (HA _ BQ.out).out.mono ?_
         rintro e w9 ⟨rfl,hb9⟩
         have B9:=Hd (BQ.out.trans (hb9.mono (BQ.out).size))
         clear hb9
         go_wp2_with fail
         go_ret
         exact ⟨rfl,B9.out⟩
       | false =>
         obtain ⟨hJ,hm1,hm2⟩:=join_sch HRA.out HRB.out HN.out hM (by have:=HS.out;rw [len_data,len_data];omega)
         have HMU:=Hd (And.intro hm1 hm2)
         have HLN:=Hd (And.intro (sch_len (nosch_of HN.out) (swhole_parts HRA.out).2) (sch_len (nosch_of hM) (swhole_parts HRB.out).2))
         obtain ⟨S,hS⟩:∃ S:ByteArray,s ++ ⟨#[10]⟩++t=S:=⟨_,rfl⟩
         have hS1:S.data.toList=s.data.toList++10 :: t.data.toList:=by rw [← hS];simp
         have hS2:S.size≤9000:=by
          have h9:=congrArg List.length hS1
          have:=HS.out
          rw [List.length_append,List.length_cons,len_data,len_data,len_data] at h9
          omega
         have HJ':Hid (wholeA schRr S.data.toList=.ok ⟨A.defs++B.defs,queryName,untold (A.defs++B.defs)⟩):=Hd (by rw [hS1];exact hJ)
         have HS2:=Hd hS2
         have hz1:s.size≤4000:=HS.out.1
         have hz2:t.size≤4000:=HS.out.2
         have hc1:(s ++ ⟨#[10]⟩:ByteArray).size≤9000:=by rw [ByteArray.size_append];show s.size+1≤9000;omega
         have hc2:(s ++ ⟨#[10]⟩++t:ByteArray).size≤9000:=by rw [hS];exact hS2
         clear hS1 hS2 hJ hM hm1 hm2
         go_wp2_with fail
         clear hS hz1 hz2 hc1 hc2
         refine (HP S _ BQ.out HS2.out).out.mono ?_
         rintro e w3 ⟨A2,n2,k2,sq2,sm2,x,rfl,hres,hb3⟩
         rw [HJ'.out] at hres
         obtain rfl:x=0:=hres.1
         have hlt2:w2.heap.size < w3.heap.size:=by have:=hb3.size;have:=Z2.out;have:=LQ2.out.size;omega
         have L3:=blw w3 (.cells #[.slice A2 n2 k2,.string sq2,.string sm2] 55)
         have LQ3:=LQ2.out.trans (hb3.mono LQ2.out.size)
         have LW2:=LQ3.trans (L3.mono LQ3.size)
         have L2W:=L2.out.trans (LW2.mono L2.out.size)
         have L1W:=L1b.out.trans (L2W.mono L1b.out.size)
         have BW:=Hd ((B2a.out.trans (LQ3.mono B2a.out.size)).trans (L3.mono (B2a.out.trans (LQ3.mono B2a.out.size)).size))
         have Y3:=heap_alloc_last w3 (.cells #[.slice A2 n2 k2,.string sq2,.string sm2] 55)
         have Y2W:=(LW2.block w2.heap.size (by rw [Z2.out];omega)).trans Y2.out
         have Y1W:=(L2W.block w1.heap.size (by omega)).trans Y1b.out
         obtain ⟨_,hn0,hq0,hmu0,hl0,RA0⟩:=res_ok RS1.out L1W
         obtain ⟨_,hn1,hq1,hmu1,hl1,RB0⟩:=res_ok RS2.out L2W
         obtain ⟨_,hn2,hq2,hmu2,hl2,RX0⟩:=res_ok hres L3
         have hZ3:(w3.alloc (.cells #[.slice A2 n2 k2,.string sq2,.string sm2] 55)).heap.size=w3.heap.size+1:=by simp
         obtain ⟨W0,hW0⟩:∃ W,w3.alloc (.cells #[.slice A2 n2 k2,.string sq2,.string sm2] 55)=W:=⟨_,rfl⟩
         rw [hW0] at RA0 RB0 RX0 Y3 Y2W Y1W BW hZ3
         have RA:=Hd RA0
         have RB:=Hd RB0
         have RX:=Hd RX0
         have HL:=Hd (show w1.heap.size < W0.heap.size∧w2.heap.size < W0.heap.size∧w3.heap.size < W0.heap.size from ⟨by omega,by omega,by omega⟩)
         subst hn0 hn1
         obtain ⟨E,hE⟩:∃ E,A.defs.length+B.defs.length=E:=⟨_,rfl⟩
         have hnE:n2=E:=by rw [hn2,← hE,List.length_append]
         subst hnE
         have hEI:(A.defs.length:Int)+(B.defs.length:Int)=(n2:Int):=by omega
         have hEb:n2≤20000:=by
          have h1:=HLN.out
          rw [tokB_len,tokB_len] at h1
          have h2:=readS_len (s:=s) (by have:=HS.out;omega)
          have h3:=readS_len (s:=t) (by have:=HS.out;omega)
          omega
         have CX:Hid (W0.cell? ⟨w3.heap.size,0,none⟩=some (.slice A2 n2 k2)∧W0.cell? ⟨w3.heap.size,1,none⟩=some (.string sq2)∧W0.cell? ⟨w3.heap.size,2,none⟩=some (.string sm2)):=Hd (by
          obtain ⟨p0,p1,p2,_⟩:=sd_three Y3
          exact ⟨p0,p1,p2⟩)
         have CA:Hid (W0.cell? ⟨w1.heap.size,0,none⟩=some (.slice A0 A.defs.length k0)∧W0.cell? ⟨w1.heap.size,2,none⟩=some (.string sm)):=Hd (by
          obtain ⟨p0,p1,p2,_⟩:=sd_three Y1W
          exact ⟨p0,p2⟩)
         have CB:Hid (W0.cell? ⟨w2.heap.size,0,none⟩=some (.slice A0' B.defs.length k0')∧W0.cell? ⟨w2.heap.size,2,none⟩=some (.string sm')):=Hd (by
          obtain ⟨p0,p1,p2,_⟩:=sd_three Y2W
          exact ⟨p0,p2⟩)
         have HQM:Hid (sq2=queryName∧(sm2.toList == mutName.toList)=((sm.toList == mutName.toList) || (sm'.toList == mutName.toList))):=Hd ⟨hq2,by rw [hmu2,hmu0,hmu1,HMU.out.1,HMU.out.2];exact untold_app _ _⟩
         have hn2':=Hd hn2
         clear hres hb3 L3 LQ3 LW2 L2W L1W Y3 Y2W Y1W RA0 RB0 RX0 hZ3 hn2 hq0 hq1 hq2 hmu0 hmu1 hmu2 hl0 hl1 hl2
         obtain ⟨p0,_,_⟩:=CX.out
         obtain ⟨p1,_⟩:=CA.out
         obtain ⟨p2,_⟩:=CB.out
         have e0:((n2:Int) != (n2:Int))=false:=by simp
         have hA9:(A.defs.length:Int)≤20000:=by omega
         have hB9:(B.defs.length:Int)≤20000:=by omega
         go_wp2_with fail
         clear hW0 p0 p1 p2
         go_loopg [10] n2 (fun g i wx=>∃ q:Nat,q+g=n2∧i=.int .i64 q∧Below W0.heap.size W0 wx)
         case atStart=>exact ⟨0,by omega,rfl,Below.refl _ _⟩
         case round =>
          obtain ⟨q,hq,rfl,hb⟩:=hrel
          have HBB:=Hd hb
          clear hb
          cases gk with
          | zero =>
            obtain rfl:q=n2:=by omega
            have h0:=(HBB.out.cell (p:=⟨w3.heap.size,0,none⟩) HL.out.2.2).trans CX.out.1
            have h1:=(HBB.out.cell (p:=⟨w3.heap.size,1,none⟩) HL.out.2.2).trans CX.out.2.1
            have h2:=(HBB.out.cell (p:=⟨w3.heap.size,2,none⟩) HL.out.2.2).trans CX.out.2.2
            have h3:=(HBB.out.cell (p:=⟨w1.heap.size,2,none⟩) HL.out.1).trans CA.out.2
            have h4:=(HBB.out.cell (p:=⟨w2.heap.size,2,none⟩) HL.out.2.1).trans CB.out.2
            have BZ:=Hd (BW.out.trans (HBB.out.mono BW.out.size))
            obtain ⟨hsq,hsm⟩:=HQM.out
            rw [show mutName.toList=[77,117,116,97,116,105,111,110] by decide +kernel] at hsm
            have t6:(sq2.toList == [81,117,101,114,121])=true:=by rw [hsq];decide +kernel
            clear hsq
            cases t7:(sm.toList == [77,117,116,97,116,105,111,110]) with
            | true =>
              rw [t7] at hsm
              have t8:(sm2.toList == [77,117,116,97,116,105,111,110])=true:=by rw [hsm];rfl
              clear hsm
              go_wp2_with fail
              refine (HA _ BZ.out).out.mono ?_
              rintro e w9 ⟨rfl,hb9⟩
              have B9:=Hd (BZ.out.trans (hb9.mono (BZ.out).size))
              clear hb9
              go_wp2_with fail
              go_ret
              exact ⟨rfl,B9.out⟩
            | false =>
              rw [t7] at hsm
              cases t9:(sm'.toList == [77,117,116,97,116,105,111,110]) with
              | true =>
                rw [t9] at hsm
                have t8:(sm2.toList == [77,117,116,97,116,105,111,110])=true:=by rw [hsm];rfl
                clear hsm
                go_wp2_with fail
                refine (HA _ BZ.out).out.mono ?_
                rintro e w9 ⟨rfl,hb9⟩
                have B9:=Hd (BZ.out.trans (hb9.mono (BZ.out).size))
                clear hb9
                go_wp2_with fail
                go_ret
                exact ⟨rfl,B9.out⟩
              | false =>
                rw [t9] at hsm
                have t8:(sm2.toList == [77,117,116,97,116,105,111,110])=false:=by rw [hsm];rfl
                clear hsm
                go_wp2_with fail
                refine (HA _ BZ.out).out.mono ?_
                rintro e w9 ⟨rfl,hb9⟩
                have B9:=Hd (BZ.out.trans (hb9.mono (BZ.out).size))
                clear hb9
                go_wp2_with fail
                go_ret
                exact ⟨rfl,B9.out⟩
          | succ g =>
            by_cases hqA:q < A.defs.length
            · skip
              have hqa:q < A.defs.length:=hqA
              obtain ⟨⟨k,nm,fs,fl,qs,ps⟩,hv⟩:∃ x,A.defs[q]? = some x:=⟨_,List.getElem?_eq_getElem hqa⟩
              have hx:(A.defs++B.defs)[q]? = some ⟨k,nm,fs,fl,qs,ps⟩:=by rw [List.getElem?_append_left hqa];exact hv
              have t4:decide ((q:Int) < (A.defs.length:Int))=true:=by simp;omega
              have t5:decide ((A.defs.length:Int)≤(q:Int))=false:=by simp;omega
              have t5n:decide (A.defs.length≤q)=false:=by simp;omega
              have hqi:(q:Int) < (n2:Int):=by omega
              obtain ⟨b,o,Af,kf,Al,kl,Aq,kq,Ap,kp,rfl,hblt,⟨g0,g1,g2,g3,g4,g5⟩,V1⟩:=def_at (RowT.below HBB.out RX.out) hx
              obtain ⟨b',o',Af',kf',Al',kl',Aq',kq',Ap',kp',e9,hblt',⟨f0,f1,f2,f3,f4,f5⟩,V2⟩:=def_at (RowT.below HBB.out RA.out) hv
              subst e9
              have h0:=(HBB.out.cell (p:=⟨w3.heap.size,0,none⟩) HL.out.2.2).trans CX.out.1
              have h1:=(HBB.out.cell (p:=⟨w1.heap.size,0,none⟩) HL.out.1).trans CA.out.1
              have h2:=(HBB.out.cell (p:=⟨w2.heap.size,0,none⟩) HL.out.2.1).trans CB.out.1
              have HBW:=Hd hblt
              have HBW':=Hd hblt'
              have hE0:KJ W0 w1.heap.size w2.heap.size w3.heap.size (.slice (some ⟨b,o,none⟩) n2 k2) (.slice (some ⟨b',o',none⟩) A.defs.length k0) (.slice A0' B.defs.length k0') b (o+q*6) (.int .i64 k) (.string nm) (.slice Af fs.length kf) (.slice Al fl.length kl) (.slice Aq qs.length kq) (.slice Ap ps.length kp) b' (o'+q*6) (.int .i64 k) (.string nm) (.slice Af' fs.length kf') (.slice Al' fl.length kl') (.slice Aq' qs.length kq') (.slice Ap' ps.length kp') wr:=⟨⟨h0,h1,h2,g0,g1,g2,g3,g4,g5,f0,f1,f2,f3,f4,f5⟩,HBB.out⟩
              have C:=fun (wx:World) (hx:Below wr.heap.size wr wx)=>Hd (sdef_yes k nm fs fl qs ps Af Af' Al Al' Aq Aq' Ap Ap' kf kf' kl kl' kq kq' kp kp' wx W0.heap.size (Nat.le_trans HBB.out.size hx.size) (DefnAt.below (hx.mono HBB.out.size) V1) (DefnAt.below (hx.mono HBB.out.size) V2))
              clear V1 V2 hv hx hblt hblt'
              go_wp2_with fail
              obtain ⟨hL,hK9⟩:Hid (∀ wx,Below wr.heap.size wr wx→wx.cell? ⟨w3.heap.size,0,none⟩=some (.slice (some ⟨b,o,none⟩) n2 k2)∧wx.cell? ⟨w1.heap.size,0,none⟩=some (.slice (some ⟨b',o',none⟩) A.defs.length k0)∧wx.cell? ⟨w2.heap.size,0,none⟩=some (.slice A0' B.defs.length k0')∧wx.cell? ⟨b,o+q*6,none⟩=some (.int .i64 k)∧wx.cell? ⟨b,o+q*6+1,none⟩=some (.string nm)∧wx.cell? ⟨b,o+q*6+2,none⟩=some (.slice Af fs.length kf)∧wx.cell? ⟨b,o+q*6+3,none⟩=some (.slice Al fl.length kl)∧wx.cell? ⟨b,o+q*6+4,none⟩=some (.slice Aq qs.length kq)∧wx.cell? ⟨b,o+q*6+5,none⟩=some (.slice Ap ps.length kp)∧wx.cell? ⟨b',o'+q*6,none⟩=some (.int .i64 k)∧wx.cell? ⟨b',o'+q*6+1,none⟩=some (.string nm)∧wx.cell? ⟨b',o'+q*6+2,none⟩=some (.slice Af' fs.length kf')∧wx.cell? ⟨b',o'+q*6+3,none⟩=some (.slice Al' fl.length kl')∧wx.cell? ⟨b',o'+q*6+4,none⟩=some (.slice Aq' qs.length kq')∧wx.cell? ⟨b',o'+q*6+5,none⟩=some (.slice Ap' ps.length kp'))∧Hid (∀ wx,Below wr.heap.size wr wx→Below W0.heap.size W0 wx):=⟨Hd (fun wx hb=>by
                obtain ⟨z0,z1,z2,z3,z4,z5,z6,z7,z8,z9,z10,z11,z12,z13,z14,_⟩:=KJ.written (KJ.next hE0 HL.out.1 HL.out.2.1 HL.out.2.2 HBW.out HBW'.out hb)
                exact ⟨z0,z1,z2,z3,z4,z5,z6,z7,z8,z9,z10,z11,z12,z13,z14⟩),Hd (fun wx hb=>HBB.out.trans (hb.mono HBB.out.size))⟩
              clear hE0 h0 h1 h2 g0 g1 g2 g3 g4 g5 f0 f1 f2 f3 f4 f5
              refine wp_region_held_drew (S:=fun w'=>w'.cell? ⟨w3.heap.size,0,none⟩=some (.slice (some ⟨b,o,none⟩) n2 k2)∧w'.cell? ⟨w1.heap.size,0,none⟩=some (.slice (some ⟨b',o',none⟩) A.defs.length k0)∧w'.cell? ⟨w2.heap.size,0,none⟩=some (.slice A0' B.defs.length k0')∧w'.cell? ⟨b,o+q*6,none⟩=some (.int .i64 k)∧w'.cell? ⟨b,o+q*6+1,none⟩=some (.string nm)∧w'.cell? ⟨b,o+q*6+2,none⟩=some (.slice Af fs.length kf)∧w'.cell? ⟨b,o+q*6+3,none⟩=some (.slice Al fl.length kl)∧w'.cell? ⟨b,o+q*6+4,none⟩=some (.slice Aq qs.length kq)∧w'.cell? ⟨b,o+q*6+5,none⟩=some (.slice Ap ps.length kp)∧w'.cell? ⟨b',o'+q*6,none⟩=some (.int .i64 k)∧w'.cell? ⟨b',o'+q*6+1,none⟩=some (.string nm)∧w'.cell? ⟨b',o'+q*6+2,none⟩=some (.slice Af' fs.length kf')∧w'.cell? ⟨b',o'+q*6+3,none⟩=some (.slice Al' fl.length kl')∧w'.cell? ⟨b',o'+q*6+4,none⟩=some (.slice Aq' qs.length kq')∧w'.cell? ⟨b',o'+q*6+5,none⟩=some (.slice Ap' ps.length kp')) (by kernel_rfl) (hL.out _ (Below.drew (Below.refl _ _))) (fun hs0=>?_)
              clear hs0
              refine wpAnyH_take (i:=0) (v:=?_) rfl (by kernel_rfl) (by kernel_rfl) (by kernel_rfl) (fun _ _ _ h=>h) (Or.inl ⟨by rfl,?_⟩) (hL.out _ (Below.drew (Below.refl _ _))) ?_
              rotate_left
              · (intro w hc;obtain ⟨h0,h1,h2,g0,g1,g2,g3,g4,g5,f0,f1,f2,f3,f4,f5⟩:=hc;go_simp;try with_reducible rfl)
              simp only [Act.put,List.getElem_toArray,List.getElem_cons_zero,List.getElem_cons_succ,List.setIfInBounds_toArray,List.set_cons_zero,List.set_cons_succ]
              refine wpAnyH_take (i:=1) (v:=?_) rfl (by kernel_rfl) (by kernel_rfl) (by kernel_rfl) (fun _ _ _ h=>h) (Or.inl ⟨by rfl,?_⟩) (hL.out _ (Below.drew (Below.refl _ _))) ?_
              rotate_left
              · (intro w hc;obtain ⟨h0,h1,h2,g0,g1,g2,g3,g4,g5,f0,f1,f2,f3,f4,f5⟩:=hc;go_simp;try with_reducible rfl)
              simp only [Act.put,List.getElem_toArray,List.getElem_cons_zero,List.getElem_cons_succ,List.setIfInBounds_toArray,List.set_cons_zero,List.set_cons_succ]
              refine wpAnyH_take (i:=2) (v:=?_) rfl (by kernel_rfl) (by kernel_rfl) (by kernel_rfl) (fun _ _ _ h=>h) (Or.inl ⟨by rfl,?_⟩) (hL.out _ (Below.drew (Below.refl _ _))) ?_
              rotate_left
              · (intro w hc;obtain ⟨h0,h1,h2,g0,g1,g2,g3,g4,g5,f0,f1,f2,f3,f4,f5⟩:=hc;go_simp;try with_reducible rfl)
              simp only [Act.put,List.getElem_toArray,List.getElem_cons_zero,List.getElem_cons_succ,List.setIfInBounds_toArray,List.set_cons_zero,List.set_cons_succ]
              refine wpAnyH_take (i:=3) (v:=?_) rfl (by kernel_rfl) (by kernel_rfl) (by kernel_rfl) (fun _ _ _ h=>h) (Or.inl ⟨by rfl,?_⟩) (hL.out _ (Below.drew (Below.refl _ _))) ?_
              rotate_left
              · (intro w hc;obtain ⟨h0,h1,h2,g0,g1,g2,g3,g4,g5,f0,f1,f2,f3,f4,f5⟩:=hc;go_simp;try with_reducible rfl)
              simp only [Act.put,List.getElem_toArray,List.getElem_cons_zero,List.getElem_cons_succ,List.setIfInBounds_toArray,List.set_cons_zero,List.set_cons_succ]
              refine wpAnyH_take (i:=4) (v:=?_) rfl (by kernel_rfl) (by kernel_rfl) (by kernel_rfl) (fun _ _ _ h=>h) (Or.inl ⟨by rfl,?_⟩) (hL.out _ (Below.drew (Below.refl _ _))) ?_
              rotate_left
              · (intro w hc;obtain ⟨h0,h1,h2,g0,g1,g2,g3,g4,g5,f0,f1,f2,f3,f4,f5⟩:=hc;go_simp;try with_reducible rfl)
              simp only [Act.put,List.getElem_toArray,List.getElem_cons_zero,List.getElem_cons_succ,List.setIfInBounds_toArray,List.set_cons_zero,List.set_cons_succ]
              refine wpAnyH_take (i:=5) (v:=?_) rfl (by kernel_rfl) (by kernel_rfl) (by kernel_rfl) (fun _ _ _ h=>h) (Or.inl ⟨by rfl,?_⟩) (hL.out _ (Below.drew (Below.refl _ _))) ?_
              rotate_left
              · (intro w hc;obtain ⟨h0,h1,h2,g0,g1,g2,g3,g4,g5,f0,f1,f2,f3,f4,f5⟩:=hc;go_simp;try with_reducible rfl)
              simp only [Act.put,List.getElem_toArray,List.getElem_cons_zero,List.getElem_cons_succ,List.setIfInBounds_toArray,List.set_cons_zero,List.set_cons_succ]
              refine wpAnyH_take (i:=6) (v:=?_) rfl (by kernel_rfl) (by kernel_rfl) (by kernel_rfl) (fun _ _ _ h=>h) (Or.inl ⟨by rfl,?_⟩) (hL.out _ (Below.drew (Below.refl _ _))) ?_
              rotate_left
              · (intro w hc;obtain ⟨h0,h1,h2,g0,g1,g2,g3,g4,g5,f0,f1,f2,f3,f4,f5⟩:=hc;go_simp;try with_reducible rfl)
              simp only [Act.put,List.getElem_toArray,List.getElem_cons_zero,List.getElem_cons_succ,List.setIfInBounds_toArray,List.set_cons_zero,List.set_cons_succ]
              refine wpAnyH_take (i:=7) (v:=?_) rfl (by kernel_rfl) (by kernel_rfl) (by kernel_rfl) (fun _ _ _ h=>h) (Or.inl ⟨by rfl,?_⟩) (hL.out _ (Below.drew (Below.refl _ _))) ?_
              rotate_left
              · (intro w hc;obtain ⟨h0,h1,h2,g0,g1,g2,g3,g4,g5,f0,f1,f2,f3,f4,f5⟩:=hc;go_simp;try with_reducible rfl)
              simp only [Act.put,List.getElem_toArray,List.getElem_cons_zero,List.getElem_cons_succ,List.setIfInBounds_toArray,List.set_cons_zero,List.set_cons_succ]
              refine wpAnyH_take (i:=8) (v:=?_) rfl (by kernel_rfl) (by kernel_rfl) (by kernel_rfl) (fun _ _ _ h=>h) (Or.inl ⟨by rfl,?_⟩) (hL.out _ (Below.drew (Below.refl _ _))) ?_
              rotate_left
              · (intro w hc;obtain ⟨h0,h1,h2,g0,g1,g2,g3,g4,g5,f0,f1,f2,f3,f4,f5⟩:=hc;go_simp;try with_reducible rfl)
              simp only [Act.put,List.getElem_toArray,List.getElem_cons_zero,List.getElem_cons_succ,List.setIfInBounds_toArray,List.set_cons_zero,List.set_cons_succ]
              refine wpAnyH_take (i:=9) (v:=?_) rfl (by kernel_rfl) (by kernel_rfl) (by kernel_rfl) (fun _ _ _ h=>h) (Or.inl ⟨by rfl,?_⟩) (hL.out _ (Below.drew (Below.refl _ _))) ?_
              rotate_left
              · (intro w hc;obtain ⟨h0,h1,h2,g0,g1,g2,g3,g4,g5,f0,f1,f2,f3,f4,f5⟩:=hc;go_simp;try with_reducible rfl)
              simp only [Act.put,List.getElem_toArray,List.getElem_cons_zero,List.getElem_cons_succ,List.setIfInBounds_toArray,List.set_cons_zero,List.set_cons_succ]
              refine wpAnyH_take (i:=10) (v:=?_) rfl (by kernel_rfl) (by kernel_rfl) (by kernel_rfl) (fun _ _ _ h=>h) (Or.inl ⟨by rfl,?_⟩) (hL.out _ (Below.drew (Below.refl _ _))) ?_
              rotate_left
              · (intro w hc;obtain ⟨h0,h1,h2,g0,g1,g2,g3,g4,g5,f0,f1,f2,f3,f4,f5⟩:=hc;go_simp;try with_reducible rfl)
              simp only [Act.put,List.getElem_toArray,List.getElem_cons_zero,List.getElem_cons_succ,List.setIfInBounds_toArray,List.set_cons_zero,List.set_cons_succ]
              refine wpAnyH_take (i:=11) (v:=?_) rfl (by kernel_rfl) (by kernel_rfl) (by kernel_rfl) (fun _ _ _ h=>h) (Or.inl ⟨by rfl,?_⟩) (hL.out _ (Below.drew (Below.refl _ _))) ?_
              rotate_left
              · (intro w hc;obtain ⟨h0,h1,h2,g0,g1,g2,g3,g4,g5,f0,f1,f2,f3,f4,f5⟩:=hc;go_simp;try with_reducible rfl)
              simp only [Act.put,List.getElem_toArray,List.getElem_cons_zero,List.getElem_cons_succ,List.setIfInBounds_toArray,List.set_cons_zero,List.set_cons_succ]
              refine wpAnyH_take (i:=12) (v:=?_) rfl (by kernel_rfl) (by kernel_rfl) (by kernel_rfl) (fun _ _ _ h=>h) (Or.inl ⟨by rfl,?_⟩) (hL.out _ (Below.drew (Below.refl _ _))) ?_
              rotate_left
              · (intro w hc;obtain ⟨h0,h1,h2,g0,g1,g2,g3,g4,g5,f0,f1,f2,f3,f4,f5⟩:=hc;go_simp;try with_reducible rfl)
              simp only [Act.put,List.getElem_toArray,List.getElem_cons_zero,List.getElem_cons_succ,List.setIfInBounds_toArray,List.set_cons_zero,List.set_cons_succ]
              refine wpAnyH_take (i:=13) (v:=?_) rfl (by kernel_rfl) (by kernel_rfl) (by kernel_rfl) (fun _ _ _ h=>h) (Or.inl ⟨by rfl,?_⟩) (hL.out _ (Below.drew (Below.refl _ _))) ?_
              rotate_left
              · (intro w hc;obtain ⟨h0,h1,h2,g0,g1,g2,g3,g4,g5,f0,f1,f2,f3,f4,f5⟩:=hc;go_simp;try with_reducible rfl)
              simp only [Act.put,List.getElem_toArray,List.getElem_cons_zero,List.getElem_cons_succ,List.setIfInBounds_toArray,List.set_cons_zero,List.set_cons_succ]
              refine wpAnyH_take (i:=14) (v:=?_) rfl (by kernel_rfl) (by kernel_rfl) (by kernel_rfl) (fun _ _ _ h=>h) (Or.inl ⟨by rfl,?_⟩) (hL.out _ (Below.drew (Below.refl _ _))) ?_
              rotate_left
              · (intro w hc;obtain ⟨h0,h1,h2,g0,g1,g2,g3,g4,g5,f0,f1,f2,f3,f4,f5⟩:=hc;go_simp;try with_reducible rfl)
              simp only [Act.put,List.getElem_toArray,List.getElem_cons_zero,List.getElem_cons_succ,List.setIfInBounds_toArray,List.set_cons_zero,List.set_cons_succ]
              refine wpAnyH_take (i:=15) (v:=?_) rfl (by kernel_rfl) (by kernel_rfl) (by kernel_rfl) (fun _ _ _ h=>h) (Or.inl ⟨by rfl,?_⟩) (hL.out _ (Below.drew (Below.refl _ _))) ?_
              rotate_left
              · (intro w hc;obtain ⟨h0,h1,h2,g0,g1,g2,g3,g4,g5,f0,f1,f2,f3,f4,f5⟩:=hc;go_simp;try with_reducible rfl)
              simp only [Act.put,List.getElem_toArray,List.getElem_cons_zero,List.getElem_cons_succ,List.setIfInBounds_toArray,List.set_cons_zero,List.set_cons_succ]
              refine wpAnyH_ready (rs:=[16]) (by kernel_rfl) (by simp) ?_
              refine AllReadyH.cons rfl (fun K hK=>?_) AllReadyH.nil
              go_simp
              go_at_call 44
              refine (C _ (Below.drew (Below.refl _ _))).out.mono ?_
              rintro e wy ⟨rfl,hbc⟩
              have hby:=((Below.drew (Below.refl _ _)):Below wr.heap.size wr _).trans (hbc.mono ((Below.drew (Below.refl _ _)):Below wr.heap.size wr _).size)
              clear hbc
              go_wp2_with fail
              refine hK.out _ _ (hL.out _ hby) (fun hs0=>?_)
              clear hK K hs0
              try simp only [Act.put,List.getElem_toArray,List.getElem_cons_zero,List.getElem_cons_succ,List.setIfInBounds_toArray,List.set_cons_zero,List.set_cons_succ]
              refine wpAnyH_take (i:=17) (v:=?_) rfl (by kernel_rfl) (by kernel_rfl) (by kernel_rfl) (fun _ _ _ h=>h) (Or.inl ⟨by rfl,?_⟩) (hL.out _ hby) ?_
              rotate_left
              · (intro w hc;obtain ⟨h0,h1,h2,g0,g1,g2,g3,g4,g5,f0,f1,f2,f3,f4,f5⟩:=hc;go_simp;try with_reducible rfl)
              simp only [Act.put,List.getElem_toArray,List.getElem_cons_zero,List.getElem_cons_succ,List.setIfInBounds_toArray,List.set_cons_zero,List.set_cons_succ]
              refine wpAnyH_take (i:=18) (v:=?_) rfl (by kernel_rfl) (by kernel_rfl) (by kernel_rfl) (fun _ _ _ h=>h) (Or.inl ⟨by rfl,?_⟩) (hL.out _ hby) ?_
              rotate_left
              · (intro w hc;obtain ⟨h0,h1,h2,g0,g1,g2,g3,g4,g5,f0,f1,f2,f3,f4,f5⟩:=hc;go_simp;try with_reducible rfl)
              simp only [Act.put,List.getElem_toArray,List.getElem_cons_zero,List.getElem_cons_succ,List.setIfInBounds_toArray,List.set_cons_zero,List.set_cons_succ]
              refine wpAnyH_take (i:=19) (v:=?_) rfl (by kernel_rfl) (by kernel_rfl) (by kernel_rfl) (fun _ _ _ h=>h) (Or.inl ⟨by rfl,?_⟩) (hL.out _ hby) ?_
              rotate_left
              · (intro w hc;obtain ⟨h0,h1,h2,g0,g1,g2,g3,g4,g5,f0,f1,f2,f3,f4,f5⟩:=hc;go_simp;try with_reducible rfl)
              simp only [Act.put,List.getElem_toArray,List.getElem_cons_zero,List.getElem_cons_succ,List.setIfInBounds_toArray,List.set_cons_zero,List.set_cons_succ]
              refine wpAnyH_take (i:=20) (v:=?_) rfl (by kernel_rfl) (by kernel_rfl) (by kernel_rfl) (fun _ _ _ h=>h) (Or.inl ⟨by rfl,?_⟩) (hL.out _ hby) ?_
              rotate_left
              · (intro w hc;obtain ⟨h0,h1,h2,g0,g1,g2,g3,g4,g5,f0,f1,f2,f3,f4,f5⟩:=hc;go_simp;try with_reducible rfl)
              simp only [Act.put,List.getElem_toArray,List.getElem_cons_zero,List.getElem_cons_succ,List.setIfInBounds_toArray,List.set_cons_zero,List.set_cons_succ]
              refine wpAnyH_take (i:=21) (v:=?_) rfl (by kernel_rfl) (by kernel_rfl) (by kernel_rfl) (fun _ _ _ h=>h) (Or.inl ⟨by rfl,?_⟩) (hL.out _ hby) ?_
              rotate_left
              · (intro w hc;obtain ⟨h0,h1,h2,g0,g1,g2,g3,g4,g5,f0,f1,f2,f3,f4,f5⟩:=hc;go_simp;try with_reducible rfl)
              simp only [Act.put,List.getElem_toArray,List.getElem_cons_zero,List.getElem_cons_succ,List.setIfInBounds_toArray,List.set_cons_zero,List.set_cons_succ]
              refine wpAnyH_take (i:=22) (v:=?_) rfl (by kernel_rfl) (by kernel_rfl) (by kernel_rfl) (fun _ _ _ h=>h) (Or.inl ⟨by rfl,?_⟩) (hL.out _ hby) ?_
              rotate_left
              · (intro w hc;obtain ⟨h0,h1,h2,g0,g1,g2,g3,g4,g5,f0,f1,f2,f3,f4,f5⟩:=hc;go_simp;try with_reducible rfl)
              simp only [Act.put,List.getElem_toArray,List.getElem_cons_zero,List.getElem_cons_succ,List.setIfInBounds_toArray,List.set_cons_zero,List.set_cons_succ]
              refine wpAnyH_take (i:=23) (v:=?_) rfl (by kernel_rfl) (by kernel_rfl) (by kernel_rfl) (fun _ _ _ h=>h) (Or.inl ⟨by rfl,?_⟩) (hL.out _ hby) ?_
              rotate_left
              · (intro w hc;obtain ⟨h0,h1,h2,g0,g1,g2,g3,g4,g5,f0,f1,f2,f3,f4,f5⟩:=hc;go_simp;try with_reducible rfl)
              simp only [Act.put,List.getElem_toArray,List.getElem_cons_zero,List.getElem_cons_succ,List.setIfInBounds_toArray,List.set_cons_zero,List.set_cons_succ]
              refine wpAnyH_take (i:=24) (v:=?_) rfl (by kernel_rfl) (by kernel_rfl) (by kernel_rfl) (fun _ _ _ h=>h) (Or.inl ⟨by rfl,?_⟩) (hL.out _ hby) ?_
              rotate_left
              · (intro w hc;obtain ⟨h0,h1,h2,g0,g1,g2,g3,g4,g5,f0,f1,f2,f3,f4,f5⟩:=hc;go_simp;try with_reducible rfl)
              simp only [Act.put,List.getElem_toArray,List.getElem_cons_zero,List.getElem_cons_succ,List.setIfInBounds_toArray,List.set_cons_zero,List.set_cons_succ]
              refine wpAnyH_take (i:=25) (v:=?_) rfl (by kernel_rfl) (by kernel_rfl) (by kernel_rfl) (fun _ _ _ h=>h) (Or.inl ⟨by rfl,?_⟩) (hL.out _ hby) ?_
              rotate_left
              · (intro w hc;obtain ⟨h0,h1,h2,g0,g1,g2,g3,g4,g5,f0,f1,f2,f3,f4,f5⟩:=hc;go_simp;try with_reducible rfl)
              simp only [Act.put,List.getElem_toArray,List.getElem_cons_zero,List.getElem_cons_succ,List.setIfInBounds_toArray,List.set_cons_zero,List.set_cons_succ]
              refine wpAnyH_take (i:=26) (v:=undef) rfl (by kernel_rfl) (by kernel_rfl) (by kernel_rfl) (fun _ _ _ h=>h) (Or.inr ⟨by rfl,rfl⟩) (hL.out _ hby) ?_
              simp only [Act.put,List.getElem_toArray,List.getElem_cons_zero,List.getElem_cons_succ,List.setIfInBounds_toArray,List.set_cons_zero,List.set_cons_succ]
              refine wpAnyH_take (i:=27) (v:=undef) rfl (by kernel_rfl) (by kernel_rfl) (by kernel_rfl) (fun _ _ _ h=>h) (Or.inr ⟨by rfl,rfl⟩) (hL.out _ hby) ?_
              simp only [Act.put,List.getElem_toArray,List.getElem_cons_zero,List.getElem_cons_succ,List.setIfInBounds_toArray,List.set_cons_zero,List.set_cons_succ]
              refine wpAnyH_take (i:=28) (v:=undef) rfl (by kernel_rfl) (by kernel_rfl) (by kernel_rfl) (fun _ _ _ h=>h) (Or.inr ⟨by rfl,rfl⟩) (hL.out _ hby) ?_
              simp only [Act.put,List.getElem_toArray,List.getElem_cons_zero,List.getElem_cons_succ,List.setIfInBounds_toArray,List.set_cons_zero,List.set_cons_succ]
              refine wpAnyH_take (i:=29) (v:=undef) rfl (by kernel_rfl) (by kernel_rfl) (by kernel_rfl) (fun _ _ _ h=>h) (Or.inr ⟨by rfl,rfl⟩) (hL.out _ hby) ?_
              simp only [Act.put,List.getElem_toArray,List.getElem_cons_zero,List.getElem_cons_succ,List.setIfInBounds_toArray,List.set_cons_zero,List.set_cons_succ]
              refine wpAnyH_take (i:=30) (v:=undef) rfl (by kernel_rfl) (by kernel_rfl) (by kernel_rfl) (fun _ _ _ h=>h) (Or.inr ⟨by rfl,rfl⟩) (hL.out _ hby) ?_
              simp only [Act.put,List.getElem_toArray,List.getElem_cons_zero,List.getElem_cons_succ,List.setIfInBounds_toArray,List.set_cons_zero,List.set_cons_succ]
              refine wpAnyH_take (i:=31) (v:=undef) rfl (by kernel_rfl) (by kernel_rfl) (by kernel_rfl) (fun _ _ _ h=>h) (Or.inr ⟨by rfl,rfl⟩) (hL.out _ hby) ?_
              simp only [Act.put,List.getElem_toArray,List.getElem_cons_zero,List.getElem_cons_succ,List.setIfInBounds_toArray,List.set_cons_zero,List.set_cons_succ]
              refine wpAnyH_take (i:=32) (v:=undef) rfl (by kernel_rfl) (by kernel_rfl) (by kernel_rfl) (fun _ _ _ h=>h) (Or.inr ⟨by rfl,rfl⟩) (hL.out _ hby) ?_
              simp only [Act.put,List.getElem_toArray,List.getElem_cons_zero,List.getElem_cons_succ,List.setIfInBounds_toArray,List.set_cons_zero,List.set_cons_succ]
              refine wpAnyH_take (i:=33) (v:=undef) rfl (by kernel_rfl) (by kernel_rfl) (by kernel_rfl) (fun _ _ _ h=>h) (Or.inr ⟨by rfl,rfl⟩) (hL.out _ hby) ?_
              simp only [Act.put,List.getElem_toArray,List.getElem_cons_zero,List.getElem_cons_succ,List.setIfInBounds_toArray,List.set_cons_zero,List.set_cons_succ]
              refine wpAnyH_take (i:=34) (v:=undef) rfl (by kernel_rfl) (by kernel_rfl) (by kernel_rfl) (fun _ _ _ h=>h) (Or.inr ⟨by rfl,rfl⟩) (hL.out _ hby) ?_
              simp only [Act.put,List.getElem_toArray,List.getElem_cons_zero,List.getElem_cons_succ,List.setIfInBounds_toArray,List.set_cons_zero,List.set_cons_succ]
              refine wpAnyH_take (i:=35) (v:=undef) rfl (by kernel_rfl) (by kernel_rfl) (by kernel_rfl) (fun _ _ _ h=>h) (Or.inr ⟨by rfl,rfl⟩) (hL.out _ hby) ?_
              simp only [Act.put,List.getElem_toArray,List.getElem_cons_zero,List.getElem_cons_succ,List.setIfInBounds_toArray,List.set_cons_zero,List.set_cons_succ]
              refine wpAnyH_take (i:=36) (v:=undef) rfl (by kernel_rfl) (by kernel_rfl) (by kernel_rfl) (fun _ _ _ h=>h) (Or.inr ⟨by rfl,rfl⟩) (hL.out _ hby) ?_
              simp only [Act.put,List.getElem_toArray,List.getElem_cons_zero,List.getElem_cons_succ,List.setIfInBounds_toArray,List.set_cons_zero,List.set_cons_succ]
              refine wpAnyH_take (i:=37) (v:=undef) rfl (by kernel_rfl) (by kernel_rfl) (by kernel_rfl) (fun _ _ _ h=>h) (Or.inr ⟨by rfl,rfl⟩) (hL.out _ hby) ?_
              simp only [Act.put,List.getElem_toArray,List.getElem_cons_zero,List.getElem_cons_succ,List.setIfInBounds_toArray,List.set_cons_zero,List.set_cons_succ]
              refine wpAnyH_take (i:=38) (v:=undef) rfl (by kernel_rfl) (by kernel_rfl) (by kernel_rfl) (fun _ _ _ h=>h) (Or.inr ⟨by rfl,rfl⟩) (hL.out _ hby) ?_
              simp only [Act.put,List.getElem_toArray,List.getElem_cons_zero,List.getElem_cons_succ,List.setIfInBounds_toArray,List.set_cons_zero,List.set_cons_succ]
              refine wpAnyH_take (i:=39) (v:=undef) rfl (by kernel_rfl) (by kernel_rfl) (by kernel_rfl) (fun _ _ _ h=>h) (Or.inr ⟨by rfl,rfl⟩) (hL.out _ hby) ?_
              simp only [Act.put,List.getElem_toArray,List.getElem_cons_zero,List.getElem_cons_succ,List.setIfInBounds_toArray,List.set_cons_zero,List.set_cons_succ]
              refine wpAnyH_take (i:=40) (v:=undef) rfl (by kernel_rfl) (by kernel_rfl) (by kernel_rfl) (fun _ _ _ h=>h) (Or.inr ⟨by rfl,rfl⟩) (hL.out _ hby) ?_
              simp only [Act.put,List.getElem_toArray,List.getElem_cons_zero,List.getElem_cons_succ,List.setIfInBounds_toArray,List.set_cons_zero,List.set_cons_succ]
              refine wpAnyH_take (i:=41) (v:=undef) rfl (by kernel_rfl) (by kernel_rfl) (by kernel_rfl) (fun _ _ _ h=>h) (Or.inr ⟨by rfl,rfl⟩) (hL.out _ hby) ?_
              simp only [Act.put,List.getElem_toArray,List.getElem_cons_zero,List.getElem_cons_succ,List.setIfInBounds_toArray,List.set_cons_zero,List.set_cons_succ]
              refine wpAnyH_take (i:=42) (v:=?_) rfl (by kernel_rfl) (by kernel_rfl) (by kernel_rfl) (fun _ _ _ h=>h) (Or.inl ⟨by rfl,?_⟩) (hL.out _ hby) ?_
              rotate_left
              · (intro w hc;obtain ⟨h0,h1,h2,g0,g1,g2,g3,g4,g5,f0,f1,f2,f3,f4,f5⟩:=hc;go_simp;try with_reducible rfl)
              simp only [Act.put,List.getElem_toArray,List.getElem_cons_zero,List.getElem_cons_succ,List.setIfInBounds_toArray,List.set_cons_zero,List.set_cons_succ]
              refine wpAnyH_take (i:=43) (v:=?_) rfl (by kernel_rfl) (by kernel_rfl) (by kernel_rfl) (fun _ _ _ h=>h) (Or.inl ⟨by rfl,?_⟩) (hL.out _ hby) ?_
              rotate_left
              · (intro w hc;obtain ⟨h0,h1,h2,g0,g1,g2,g3,g4,g5,f0,f1,f2,f3,f4,f5⟩:=hc;go_simp;try with_reducible rfl)
              simp only [Act.put,List.getElem_toArray,List.getElem_cons_zero,List.getElem_cons_succ,List.setIfInBounds_toArray,List.set_cons_zero,List.set_cons_succ]
              refine wpAnyH_done (by kernel_rfl) ?_ _
              clear hL C
              go_wp2_with fail
              go_roundg g
              case measure=>omega
              case rel=>exact ⟨q+1,by omega,by go_num,hK9.out _ (by assumption)⟩
            · skip
              obtain ⟨p,hp⟩:∃ p,q - A.defs.length=p:=⟨_,rfl⟩
              have hpb:p < B.defs.length:=by omega
              obtain ⟨⟨k,nm,fs,fl,qs,ps⟩,hv⟩:∃ x,B.defs[p]? = some x:=⟨_,List.getElem?_eq_getElem hpb⟩
              have hx:(A.defs++B.defs)[q]? = some ⟨k,nm,fs,fl,qs,ps⟩:=by rw [List.getElem?_append_right (by omega),hp];exact hv
              have t4:decide ((q:Int) < (A.defs.length:Int))=false:=by simp;omega
              have t5:decide ((A.defs.length:Int)≤(q:Int))=true:=by simp;omega
              have t5n:decide (A.defs.length≤q)=true:=by simp;omega
              have hsub:(q:Int) - (A.defs.length:Int)=(p:Int):=by omega
              have hpi:(p:Int) < (B.defs.length:Int):=by omega
              have hwp:IntKind.i64.wrap (p:Int)=(p:Int):=IntWalk.i64_in _ (by omega)
              have hqi:(q:Int) < (n2:Int):=by omega
              obtain ⟨b,o,Af,kf,Al,kl,Aq,kq,Ap,kp,rfl,hblt,⟨g0,g1,g2,g3,g4,g5⟩,V1⟩:=def_at (RowT.below HBB.out RX.out) hx
              obtain ⟨b',o',Af',kf',Al',kl',Aq',kq',Ap',kp',e9,hblt',⟨f0,f1,f2,f3,f4,f5⟩,V2⟩:=def_at (RowT.below HBB.out RB.out) hv
              subst e9
              have h0:=(HBB.out.cell (p:=⟨w3.heap.size,0,none⟩) HL.out.2.2).trans CX.out.1
              have h1:=(HBB.out.cell (p:=⟨w1.heap.size,0,none⟩) HL.out.1).trans CA.out.1
              have h2:=(HBB.out.cell (p:=⟨w2.heap.size,0,none⟩) HL.out.2.1).trans CB.out.1
              have HBW:=Hd hblt
              have HBW':=Hd hblt'
              have hE0:KJ W0 w1.heap.size w2.heap.size w3.heap.size (.slice (some ⟨b,o,none⟩) n2 k2) (.slice A0 A.defs.length k0) (.slice (some ⟨b',o',none⟩) B.defs.length k0') b (o+q*6) (.int .i64 k) (.string nm) (.slice Af fs.length kf) (.slice Al fl.length kl) (.slice Aq qs.length kq) (.slice Ap ps.length kp) b' (o'+p*6) (.int .i64 k) (.string nm) (.slice Af' fs.length kf') (.slice Al' fl.length kl') (.slice Aq' qs.length kq') (.slice Ap' ps.length kp') wr:=⟨⟨h0,h1,h2,g0,g1,g2,g3,g4,g5,f0,f1,f2,f3,f4,f5⟩,HBB.out⟩
              have C:=fun (wx:World) (hx:Below wr.heap.size wr wx)=>Hd (sdef_yes k nm fs fl qs ps Af Af' Al Al' Aq Aq' Ap Ap' kf kf' kl kl' kq kq' kp kp' wx W0.heap.size (Nat.le_trans HBB.out.size hx.size) (DefnAt.below (hx.mono HBB.out.size) V1) (DefnAt.below (hx.mono HBB.out.size) V2))
              clear V1 V2 hv hx hblt hblt' hpb hp
              go_wp2_with fail
              obtain ⟨hL,hK9⟩:Hid (∀ wx,Below wr.heap.size wr wx→wx.cell? ⟨w3.heap.size,0,none⟩=some (.slice (some ⟨b,o,none⟩) n2 k2)∧wx.cell? ⟨w1.heap.size,0,none⟩=some (.slice A0 A.defs.length k0)∧wx.cell? ⟨w2.heap.size,0,none⟩=some (.slice (some ⟨b',o',none⟩) B.defs.length k0')∧wx.cell? ⟨b,o+q*6,none⟩=some (.int .i64 k)∧wx.cell? ⟨b,o+q*6+1,none⟩=some (.string nm)∧wx.cell? ⟨b,o+q*6+2,none⟩=some (.slice Af fs.length kf)∧wx.cell? ⟨b,o+q*6+3,none⟩=some (.slice Al fl.length kl)∧wx.cell? ⟨b,o+q*6+4,none⟩=some (.slice Aq qs.length kq)∧wx.cell? ⟨b,o+q*6+5,none⟩=some (.slice Ap ps.length kp)∧wx.cell? ⟨b',o'+p*6,none⟩=some (.int .i64 k)∧wx.cell? ⟨b',o'+p*6+1,none⟩=some (.string nm)∧wx.cell? ⟨b',o'+p*6+2,none⟩=some (.slice Af' fs.length kf')∧wx.cell? ⟨b',o'+p*6+3,none⟩=some (.slice Al' fl.length kl')∧wx.cell? ⟨b',o'+p*6+4,none⟩=some (.slice Aq' qs.length kq')∧wx.cell? ⟨b',o'+p*6+5,none⟩=some (.slice Ap' ps.length kp'))∧Hid (∀ wx,Below wr.heap.size wr wx→Below W0.heap.size W0 wx):=⟨Hd (fun wx hb=>by
                obtain ⟨z0,z1,z2,z3,z4,z5,z6,z7,z8,z9,z10,z11,z12,z13,z14,_⟩:=KJ.written (KJ.next hE0 HL.out.1 HL.out.2.1 HL.out.2.2 HBW.out HBW'.out hb)
                exact ⟨z0,z1,z2,z3,z4,z5,z6,z7,z8,z9,z10,z11,z12,z13,z14⟩),Hd (fun wx hb=>HBB.out.trans (hb.mono HBB.out.size))⟩
              clear hE0 h0 h1 h2 g0 g1 g2 g3 g4 g5 f0 f1 f2 f3 f4 f5
              refine wp_region_held_drew (S:=fun w'=>w'.cell? ⟨w3.heap.size,0,none⟩=some (.slice (some ⟨b,o,none⟩) n2 k2)∧w'.cell? ⟨w1.heap.size,0,none⟩=some (.slice A0 A.defs.length k0)∧w'.cell? ⟨w2.heap.size,0,none⟩=some (.slice (some ⟨b',o',none⟩) B.defs.length k0')∧w'.cell? ⟨b,o+q*6,none⟩=some (.int .i64 k)∧w'.cell? ⟨b,o+q*6+1,none⟩=some (.string nm)∧w'.cell? ⟨b,o+q*6+2,none⟩=some (.slice Af fs.length kf)∧w'.cell? ⟨b,o+q*6+3,none⟩=some (.slice Al fl.length kl)∧w'.cell? ⟨b,o+q*6+4,none⟩=some (.slice Aq qs.length kq)∧w'.cell? ⟨b,o+q*6+5,none⟩=some (.slice Ap ps.length kp)∧w'.cell? ⟨b',o'+p*6,none⟩=some (.int .i64 k)∧w'.cell? ⟨b',o'+p*6+1,none⟩=some (.string nm)∧w'.cell? ⟨b',o'+p*6+2,none⟩=some (.slice Af' fs.length kf')∧w'.cell? ⟨b',o'+p*6+3,none⟩=some (.slice Al' fl.length kl')∧w'.cell? ⟨b',o'+p*6+4,none⟩=some (.slice Aq' qs.length kq')∧w'.cell? ⟨b',o'+p*6+5,none⟩=some (.slice Ap' ps.length kp')) (by kernel_rfl) (hL.out _ (Below.drew (Below.refl _ _))) (fun hs0=>?_)
              clear hs0
              refine wpAnyH_take (i:=0) (v:=?_) rfl (by kernel_rfl) (by kernel_rfl) (by kernel_rfl) (fun _ _ _ h=>h) (Or.inl ⟨by rfl,?_⟩) (hL.out _ (Below.drew (Below.refl _ _))) ?_
              rotate_left
              · (intro w hc;obtain ⟨h0,h1,h2,g0,g1,g2,g3,g4,g5,f0,f1,f2,f3,f4,f5⟩:=hc;go_simp;try with_reducible rfl)
              simp only [Act.put,List.getElem_toArray,List.getElem_cons_zero,List.getElem_cons_succ,List.setIfInBounds_toArray,List.set_cons_zero,List.set_cons_succ]
              refine wpAnyH_take (i:=1) (v:=?_) rfl (by kernel_rfl) (by kernel_rfl) (by kernel_rfl) (fun _ _ _ h=>h) (Or.inl ⟨by rfl,?_⟩) (hL.out _ (Below.drew (Below.refl _ _))) ?_
              rotate_left
              · (intro w hc;obtain ⟨h0,h1,h2,g0,g1,g2,g3,g4,g5,f0,f1,f2,f3,f4,f5⟩:=hc;go_simp;try with_reducible rfl)
              simp only [Act.put,List.getElem_toArray,List.getElem_cons_zero,List.getElem_cons_succ,List.setIfInBounds_toArray,List.set_cons_zero,List.set_cons_succ]
              refine wpAnyH_take (i:=2) (v:=?_) rfl (by kernel_rfl) (by kernel_rfl) (by kernel_rfl) (fun _ _ _ h=>h) (Or.inl ⟨by rfl,?_⟩) (hL.out _ (Below.drew (Below.refl _ _))) ?_
              rotate_left
              · (intro w hc;obtain ⟨h0,h1,h2,g0,g1,g2,g3,g4,g5,f0,f1,f2,f3,f4,f5⟩:=hc;go_simp;try with_reducible rfl)
              simp only [Act.put,List.getElem_toArray,List.getElem_cons_zero,List.getElem_cons_succ,List.setIfInBounds_toArray,List.set_cons_zero,List.set_cons_succ]
              refine wpAnyH_take (i:=3) (v:=?_) rfl (by kernel_rfl) (by kernel_rfl) (by kernel_rfl) (fun _ _ _ h=>h) (Or.inl ⟨by rfl,?_⟩) (hL.out _ (Below.drew (Below.refl _ _))) ?_
              rotate_left
              · (intro w hc;obtain ⟨h0,h1,h2,g0,g1,g2,g3,g4,g5,f0,f1,f2,f3,f4,f5⟩:=hc;go_simp;try with_reducible rfl)
              simp only [Act.put,List.getElem_toArray,List.getElem_cons_zero,List.getElem_cons_succ,List.setIfInBounds_toArray,List.set_cons_zero,List.set_cons_succ]
              refine wpAnyH_take (i:=4) (v:=?_) rfl (by kernel_rfl) (by kernel_rfl) (by kernel_rfl) (fun _ _ _ h=>h) (Or.inl ⟨by rfl,?_⟩) (hL.out _ (Below.drew (Below.refl _ _))) ?_
              rotate_left
              · (intro w hc;obtain ⟨h0,h1,h2,g0,g1,g2,g3,g4,g5,f0,f1,f2,f3,f4,f5⟩:=hc;go_simp;try with_reducible rfl)
              simp only [Act.put,List.getElem_toArray,List.getElem_cons_zero,List.getElem_cons_succ,List.setIfInBounds_toArray,List.set_cons_zero,List.set_cons_succ]
              refine wpAnyH_take (i:=5) (v:=?_) rfl (by kernel_rfl) (by kernel_rfl) (by kernel_rfl) (fun _ _ _ h=>h) (Or.inl ⟨by rfl,?_⟩) (hL.out _ (Below.drew (Below.refl _ _))) ?_
              rotate_left
              · (intro w hc;obtain ⟨h0,h1,h2,g0,g1,g2,g3,g4,g5,f0,f1,f2,f3,f4,f5⟩:=hc;go_simp;try with_reducible rfl)
              simp only [Act.put,List.getElem_toArray,List.getElem_cons_zero,List.getElem_cons_succ,List.setIfInBounds_toArray,List.set_cons_zero,List.set_cons_succ]
              refine wpAnyH_take (i:=6) (v:=undef) rfl (by kernel_rfl) (by kernel_rfl) (by kernel_rfl) (fun _ _ _ h=>h) (Or.inr ⟨by rfl,rfl⟩) (hL.out _ (Below.drew (Below.refl _ _))) ?_
              simp only [Act.put,List.getElem_toArray,List.getElem_cons_zero,List.getElem_cons_succ,List.setIfInBounds_toArray,List.set_cons_zero,List.set_cons_succ]
              refine wpAnyH_take (i:=7) (v:=undef) rfl (by kernel_rfl) (by kernel_rfl) (by kernel_rfl) (fun _ _ _ h=>h) (Or.inr ⟨by rfl,rfl⟩) (hL.out _ (Below.drew (Below.refl _ _))) ?_
              simp only [Act.put,List.getElem_toArray,List.getElem_cons_zero,List.getElem_cons_succ,List.setIfInBounds_toArray,List.set_cons_zero,List.set_cons_succ]
              refine wpAnyH_take (i:=8) (v:=undef) rfl (by kernel_rfl) (by kernel_rfl) (by kernel_rfl) (fun _ _ _ h=>h) (Or.inr ⟨by rfl,rfl⟩) (hL.out _ (Below.drew (Below.refl _ _))) ?_
              simp only [Act.put,List.getElem_toArray,List.getElem_cons_zero,List.getElem_cons_succ,List.setIfInBounds_toArray,List.set_cons_zero,List.set_cons_succ]
              refine wpAnyH_take (i:=9) (v:=undef) rfl (by kernel_rfl) (by kernel_rfl) (by kernel_rfl) (fun _ _ _ h=>h) (Or.inr ⟨by rfl,rfl⟩) (hL.out _ (Below.drew (Below.refl _ _))) ?_
              simp only [Act.put,List.getElem_toArray,List.getElem_cons_zero,List.getElem_cons_succ,List.setIfInBounds_toArray,List.set_cons_zero,List.set_cons_succ]
              refine wpAnyH_take (i:=10) (v:=undef) rfl (by kernel_rfl) (by kernel_rfl) (by kernel_rfl) (fun _ _ _ h=>h) (Or.inr ⟨by rfl,rfl⟩) (hL.out _ (Below.drew (Below.refl _ _))) ?_
              simp only [Act.put,List.getElem_toArray,List.getElem_cons_zero,List.getElem_cons_succ,List.setIfInBounds_toArray,List.set_cons_zero,List.set_cons_succ]
              refine wpAnyH_take (i:=11) (v:=undef) rfl (by kernel_rfl) (by kernel_rfl) (by kernel_rfl) (fun _ _ _ h=>h) (Or.inr ⟨by rfl,rfl⟩) (hL.out _ (Below.drew (Below.refl _ _))) ?_
              simp only [Act.put,List.getElem_toArray,List.getElem_cons_zero,List.getElem_cons_succ,List.setIfInBounds_toArray,List.set_cons_zero,List.set_cons_succ]
              refine wpAnyH_take (i:=12) (v:=undef) rfl (by kernel_rfl) (by kernel_rfl) (by kernel_rfl) (fun _ _ _ h=>h) (Or.inr ⟨by rfl,rfl⟩) (hL.out _ (Below.drew (Below.refl _ _))) ?_
              simp only [Act.put,List.getElem_toArray,List.getElem_cons_zero,List.getElem_cons_succ,List.setIfInBounds_toArray,List.set_cons_zero,List.set_cons_succ]
              refine wpAnyH_take (i:=13) (v:=undef) rfl (by kernel_rfl) (by kernel_rfl) (by kernel_rfl) (fun _ _ _ h=>h) (Or.inr ⟨by rfl,rfl⟩) (hL.out _ (Below.drew (Below.refl _ _))) ?_
              simp only [Act.put,List.getElem_toArray,List.getElem_cons_zero,List.getElem_cons_succ,List.setIfInBounds_toArray,List.set_cons_zero,List.set_cons_succ]
              refine wpAnyH_take (i:=14) (v:=undef) rfl (by kernel_rfl) (by kernel_rfl) (by kernel_rfl) (fun _ _ _ h=>h) (Or.inr ⟨by rfl,rfl⟩) (hL.out _ (Below.drew (Below.refl _ _))) ?_
              simp only [Act.put,List.getElem_toArray,List.getElem_cons_zero,List.getElem_cons_succ,List.setIfInBounds_toArray,List.set_cons_zero,List.set_cons_succ]
              refine wpAnyH_take (i:=15) (v:=undef) rfl (by kernel_rfl) (by kernel_rfl) (by kernel_rfl) (fun _ _ _ h=>h) (Or.inr ⟨by rfl,rfl⟩) (hL.out _ (Below.drew (Below.refl _ _))) ?_
              simp only [Act.put,List.getElem_toArray,List.getElem_cons_zero,List.getElem_cons_succ,List.setIfInBounds_toArray,List.set_cons_zero,List.set_cons_succ]
              refine wpAnyH_take (i:=16) (v:=undef) rfl (by kernel_rfl) (by kernel_rfl) (by kernel_rfl) (fun _ _ _ h=>h) (Or.inr ⟨by rfl,rfl⟩) (hL.out _ (Below.drew (Below.refl _ _))) ?_
              simp only [Act.put,List.getElem_toArray,List.getElem_cons_zero,List.getElem_cons_succ,List.setIfInBounds_toArray,List.set_cons_zero,List.set_cons_succ]
              refine wpAnyH_take (i:=17) (v:=undef) rfl (by kernel_rfl) (by kernel_rfl) (by kernel_rfl) (fun _ _ _ h=>h) (Or.inr ⟨by rfl,rfl⟩) (hL.out _ (Below.drew (Below.refl _ _))) ?_
              simp only [Act.put,List.getElem_toArray,List.getElem_cons_zero,List.getElem_cons_succ,List.setIfInBounds_toArray,List.set_cons_zero,List.set_cons_succ]
              refine wpAnyH_take (i:=18) (v:=?_) rfl (by kernel_rfl) (by kernel_rfl) (by kernel_rfl) (fun _ _ _ h=>h) (Or.inl ⟨by rfl,?_⟩) (hL.out _ (Below.drew (Below.refl _ _))) ?_
              rotate_left
              · (intro w hc;obtain ⟨h0,h1,h2,g0,g1,g2,g3,g4,g5,f0,f1,f2,f3,f4,f5⟩:=hc;go_simp;try with_reducible rfl)
              simp only [Act.put,List.getElem_toArray,List.getElem_cons_zero,List.getElem_cons_succ,List.setIfInBounds_toArray,List.set_cons_zero,List.set_cons_succ]
              refine wpAnyH_take (i:=19) (v:=?_) rfl (by kernel_rfl) (by kernel_rfl) (by kernel_rfl) (fun _ _ _ h=>h) (Or.inl ⟨by rfl,?_⟩) (hL.out _ (Below.drew (Below.refl _ _))) ?_
              rotate_left
              · (intro w hc;obtain ⟨h0,h1,h2,g0,g1,g2,g3,g4,g5,f0,f1,f2,f3,f4,f5⟩:=hc;go_simp;try with_reducible rfl)
              simp only [Act.put,List.getElem_toArray,List.getElem_cons_zero,List.getElem_cons_succ,List.setIfInBounds_toArray,List.set_cons_zero,List.set_cons_succ]
              refine wpAnyH_take (i:=20) (v:=?_) rfl (by kernel_rfl) (by kernel_rfl) (by kernel_rfl) (fun _ _ _ h=>h) (Or.inl ⟨by rfl,?_⟩) (hL.out _ (Below.drew (Below.refl _ _))) ?_
              rotate_left
              · (intro w hc;obtain ⟨h0,h1,h2,g0,g1,g2,g3,g4,g5,f0,f1,f2,f3,f4,f5⟩:=hc;go_simp;try with_reducible rfl)
              simp only [Act.put,List.getElem_toArray,List.getElem_cons_zero,List.getElem_cons_succ,List.setIfInBounds_toArray,List.set_cons_zero,List.set_cons_succ]
              refine wpAnyH_take (i:=21) (v:=?_) rfl (by kernel_rfl) (by kernel_rfl) (by kernel_rfl) (fun _ _ _ h=>h) (Or.inl ⟨by rfl,?_⟩) (hL.out _ (Below.drew (Below.refl _ _))) ?_
              rotate_left
              · (intro w hc;obtain ⟨h0,h1,h2,g0,g1,g2,g3,g4,g5,f0,f1,f2,f3,f4,f5⟩:=hc;go_simp;try with_reducible rfl)
              simp only [Act.put,List.getElem_toArray,List.getElem_cons_zero,List.getElem_cons_succ,List.setIfInBounds_toArray,List.set_cons_zero,List.set_cons_succ]
              refine wpAnyH_take (i:=22) (v:=?_) rfl (by kernel_rfl) (by kernel_rfl) (by kernel_rfl) (fun _ _ _ h=>h) (Or.inl ⟨by rfl,?_⟩) (hL.out _ (Below.drew (Below.refl _ _))) ?_
              rotate_left
              · (intro w hc;obtain ⟨h0,h1,h2,g0,g1,g2,g3,g4,g5,f0,f1,f2,f3,f4,f5⟩:=hc;go_simp;try with_reducible rfl)
              simp only [Act.put,List.getElem_toArray,List.getElem_cons_zero,List.getElem_cons_succ,List.setIfInBounds_toArray,List.set_cons_zero,List.set_cons_succ]
              refine wpAnyH_take (i:=23) (v:=?_) rfl (by kernel_rfl) (by kernel_rfl) (by kernel_rfl) (fun _ _ _ h=>h) (Or.inl ⟨by rfl,?_⟩) (hL.out _ (Below.drew (Below.refl _ _))) ?_
              rotate_left
              · (intro w hc;obtain ⟨h0,h1,h2,g0,g1,g2,g3,g4,g5,f0,f1,f2,f3,f4,f5⟩:=hc;go_simp;try with_reducible rfl)
              simp only [Act.put,List.getElem_toArray,List.getElem_cons_zero,List.getElem_cons_succ,List.setIfInBounds_toArray,List.set_cons_zero,List.set_cons_succ]
              refine wpAnyH_take (i:=24) (v:=?_) rfl (by kernel_rfl) (by kernel_rfl) (by kernel_rfl) (fun _ _ _ h=>h) (Or.inl ⟨by rfl,?_⟩) (hL.out _ (Below.drew (Below.refl _ _))) ?_
              rotate_left
              · (intro w hc;obtain ⟨h0,h1,h2,g0,g1,g2,g3,g4,g5,f0,f1,f2,f3,f4,f5⟩:=hc;go_simp;try with_reducible rfl)
              simp only [Act.put,List.getElem_toArray,List.getElem_cons_zero,List.getElem_cons_succ,List.setIfInBounds_toArray,List.set_cons_zero,List.set_cons_succ]
              refine wpAnyH_take (i:=25) (v:=?_) rfl (by kernel_rfl) (by kernel_rfl) (by kernel_rfl) (fun _ _ _ h=>h) (Or.inl ⟨by rfl,?_⟩) (hL.out _ (Below.drew (Below.refl _ _))) ?_
              rotate_left
              · (intro w hc;obtain ⟨h0,h1,h2,g0,g1,g2,g3,g4,g5,f0,f1,f2,f3,f4,f5⟩:=hc;go_simp;try with_reducible rfl)
              simp only [Act.put,List.getElem_toArray,List.getElem_cons_zero,List.getElem_cons_succ,List.setIfInBounds_toArray,List.set_cons_zero,List.set_cons_succ]
              refine wpAnyH_take (i:=26) (v:=?_) rfl (by kernel_rfl) (by kernel_rfl) (by kernel_rfl) (fun _ _ _ h=>h) (Or.inl ⟨by rfl,?_⟩) (hL.out _ (Below.drew (Below.refl _ _))) ?_
              rotate_left
              · (intro w hc;obtain ⟨h0,h1,h2,g0,g1,g2,g3,g4,g5,f0,f1,f2,f3,f4,f5⟩:=hc;go_simp;try with_reducible rfl)
              simp only [Act.put,List.getElem_toArray,List.getElem_cons_zero,List.getElem_cons_succ,List.setIfInBounds_toArray,List.set_cons_zero,List.set_cons_succ]
              refine wpAnyH_take (i:=27) (v:=?_) rfl (by kernel_rfl) (by kernel_rfl) (by kernel_rfl) (fun _ _ _ h=>h) (Or.inl ⟨by rfl,?_⟩) (hL.out _ (Below.drew (Below.refl _ _))) ?_
              rotate_left
              · (intro w hc;obtain ⟨h0,h1,h2,g0,g1,g2,g3,g4,g5,f0,f1,f2,f3,f4,f5⟩:=hc;go_simp;try with_reducible rfl)
              simp only [Act.put,List.getElem_toArray,List.getElem_cons_zero,List.getElem_cons_succ,List.setIfInBounds_toArray,List.set_cons_zero,List.set_cons_succ]
              refine wpAnyH_take (i:=28) (v:=?_) rfl (by kernel_rfl) (by kernel_rfl) (by kernel_rfl) (fun _ _ _ h=>h) (Or.inl ⟨by rfl,?_⟩) (hL.out _ (Below.drew (Below.refl _ _))) ?_
              rotate_left
              · (intro w hc;obtain ⟨h0,h1,h2,g0,g1,g2,g3,g4,g5,f0,f1,f2,f3,f4,f5⟩:=hc;go_simp;try with_reducible rfl)
              simp only [Act.put,List.getElem_toArray,List.getElem_cons_zero,List.getElem_cons_succ,List.setIfInBounds_toArray,List.set_cons_zero,List.set_cons_succ]
              refine wpAnyH_take (i:=29) (v:=?_) rfl (by kernel_rfl) (by kernel_rfl) (by kernel_rfl) (fun _ _ _ h=>h) (Or.inl ⟨by rfl,?_⟩) (hL.out _ (Below.drew (Below.refl _ _))) ?_
              rotate_left
              · (intro w hc;obtain ⟨h0,h1,h2,g0,g1,g2,g3,g4,g5,f0,f1,f2,f3,f4,f5⟩:=hc;go_simp;try with_reducible rfl)
              simp only [Act.put,List.getElem_toArray,List.getElem_cons_zero,List.getElem_cons_succ,List.setIfInBounds_toArray,List.set_cons_zero,List.set_cons_succ]
              refine wpAnyH_take (i:=30) (v:=?_) rfl (by kernel_rfl) (by kernel_rfl) (by kernel_rfl) (fun _ _ _ h=>h) (Or.inl ⟨by rfl,?_⟩) (hL.out _ (Below.drew (Below.refl _ _))) ?_
              rotate_left
              · (intro w hc;obtain ⟨h0,h1,h2,g0,g1,g2,g3,g4,g5,f0,f1,f2,f3,f4,f5⟩:=hc;go_simp;try with_reducible rfl)
              simp only [Act.put,List.getElem_toArray,List.getElem_cons_zero,List.getElem_cons_succ,List.setIfInBounds_toArray,List.set_cons_zero,List.set_cons_succ]
              refine wpAnyH_take (i:=31) (v:=?_) rfl (by kernel_rfl) (by kernel_rfl) (by kernel_rfl) (fun _ _ _ h=>h) (Or.inl ⟨by rfl,?_⟩) (hL.out _ (Below.drew (Below.refl _ _))) ?_
              rotate_left
              · (intro w hc;obtain ⟨h0,h1,h2,g0,g1,g2,g3,g4,g5,f0,f1,f2,f3,f4,f5⟩:=hc;go_simp;try with_reducible rfl)
              simp only [Act.put,List.getElem_toArray,List.getElem_cons_zero,List.getElem_cons_succ,List.setIfInBounds_toArray,List.set_cons_zero,List.set_cons_succ]
              refine wpAnyH_take (i:=32) (v:=?_) rfl (by kernel_rfl) (by kernel_rfl) (by kernel_rfl) (fun _ _ _ h=>h) (Or.inl ⟨by rfl,?_⟩) (hL.out _ (Below.drew (Below.refl _ _))) ?_
              rotate_left
              · (intro w hc;obtain ⟨h0,h1,h2,g0,g1,g2,g3,g4,g5,f0,f1,f2,f3,f4,f5⟩:=hc;go_simp;try with_reducible rfl)
              simp only [Act.put,List.getElem_toArray,List.getElem_cons_zero,List.getElem_cons_succ,List.setIfInBounds_toArray,List.set_cons_zero,List.set_cons_succ]
              refine wpAnyH_take (i:=33) (v:=?_) rfl (by kernel_rfl) (by kernel_rfl) (by kernel_rfl) (fun _ _ _ h=>h) (Or.inl ⟨by rfl,?_⟩) (hL.out _ (Below.drew (Below.refl _ _))) ?_
              rotate_left
              · (intro w hc;obtain ⟨h0,h1,h2,g0,g1,g2,g3,g4,g5,f0,f1,f2,f3,f4,f5⟩:=hc;go_simp;try with_reducible rfl)
              simp only [Act.put,List.getElem_toArray,List.getElem_cons_zero,List.getElem_cons_succ,List.setIfInBounds_toArray,List.set_cons_zero,List.set_cons_succ]
              refine wpAnyH_take (i:=34) (v:=?_) rfl (by kernel_rfl) (by kernel_rfl) (by kernel_rfl) (fun _ _ _ h=>h) (Or.inl ⟨by rfl,?_⟩) (hL.out _ (Below.drew (Below.refl _ _))) ?_
              rotate_left
              · (intro w hc;obtain ⟨h0,h1,h2,g0,g1,g2,g3,g4,g5,f0,f1,f2,f3,f4,f5⟩:=hc;go_simp;try with_reducible rfl)
              simp only [Act.put,List.getElem_toArray,List.getElem_cons_zero,List.getElem_cons_succ,List.setIfInBounds_toArray,List.set_cons_zero,List.set_cons_succ]
              refine wpAnyH_take (i:=35) (v:=?_) rfl (by kernel_rfl) (by kernel_rfl) (by kernel_rfl) (fun _ _ _ h=>h) (Or.inl ⟨by rfl,?_⟩) (hL.out _ (Below.drew (Below.refl _ _))) ?_
              rotate_left
              · (intro w hc;obtain ⟨h0,h1,h2,g0,g1,g2,g3,g4,g5,f0,f1,f2,f3,f4,f5⟩:=hc;go_simp;try with_reducible rfl)
              simp only [Act.put,List.getElem_toArray,List.getElem_cons_zero,List.getElem_cons_succ,List.setIfInBounds_toArray,List.set_cons_zero,List.set_cons_succ]
              refine wpAnyH_take (i:=36) (v:=?_) rfl (by kernel_rfl) (by kernel_rfl) (by kernel_rfl) (fun _ _ _ h=>h) (Or.inl ⟨by rfl,?_⟩) (hL.out _ (Below.drew (Below.refl _ _))) ?_
              rotate_left
              · (intro w hc;obtain ⟨h0,h1,h2,g0,g1,g2,g3,g4,g5,f0,f1,f2,f3,f4,f5⟩:=hc;go_simp;try with_reducible rfl)
              simp only [Act.put,List.getElem_toArray,List.getElem_cons_zero,List.getElem_cons_succ,List.setIfInBounds_toArray,List.set_cons_zero,List.set_cons_succ]
              refine wpAnyH_take (i:=37) (v:=?_) rfl (by kernel_rfl) (by kernel_rfl) (by kernel_rfl) (fun _ _ _ h=>h) (Or.inl ⟨by rfl,?_⟩) (hL.out _ (Below.drew (Below.refl _ _))) ?_
              rotate_left
              · (intro w hc;obtain ⟨h0,h1,h2,g0,g1,g2,g3,g4,g5,f0,f1,f2,f3,f4,f5⟩:=hc;go_simp;try with_reducible rfl)
              simp only [Act.put,List.getElem_toArray,List.getElem_cons_zero,List.getElem_cons_succ,List.setIfInBounds_toArray,List.set_cons_zero,List.set_cons_succ]
              refine wpAnyH_take (i:=38) (v:=?_) rfl (by kernel_rfl) (by kernel_rfl) (by kernel_rfl) (fun _ _ _ h=>h) (Or.inl ⟨by rfl,?_⟩) (hL.out _ (Below.drew (Below.refl _ _))) ?_
              rotate_left
              · (intro w hc;obtain ⟨h0,h1,h2,g0,g1,g2,g3,g4,g5,f0,f1,f2,f3,f4,f5⟩:=hc;go_simp;try with_reducible rfl)
              simp only [Act.put,List.getElem_toArray,List.getElem_cons_zero,List.getElem_cons_succ,List.setIfInBounds_toArray,List.set_cons_zero,List.set_cons_succ]
              refine wpAnyH_take (i:=39) (v:=?_) rfl (by kernel_rfl) (by kernel_rfl) (by kernel_rfl) (fun _ _ _ h=>h) (Or.inl ⟨by rfl,?_⟩) (hL.out _ (Below.drew (Below.refl _ _))) ?_
              rotate_left
              · (intro w hc;obtain ⟨h0,h1,h2,g0,g1,g2,g3,g4,g5,f0,f1,f2,f3,f4,f5⟩:=hc;go_simp;try with_reducible rfl)
              simp only [Act.put,List.getElem_toArray,List.getElem_cons_zero,List.getElem_cons_succ,List.setIfInBounds_toArray,List.set_cons_zero,List.set_cons_succ]
              refine wpAnyH_ready (rs:=[40]) (by kernel_rfl) (by simp) ?_
              refine AllReadyH.cons rfl (fun K hK=>?_) AllReadyH.nil
              go_simp
              go_at_call 44
              refine (C _ (Below.drew (Below.refl _ _))).out.mono ?_
              rintro e wy ⟨rfl,hbc⟩
              have hby:=((Below.drew (Below.refl _ _)):Below wr.heap.size wr _).trans (hbc.mono ((Below.drew (Below.refl _ _)):Below wr.heap.size wr _).size)
              clear hbc
              go_wp2_with fail
              refine hK.out _ _ (hL.out _ hby) (fun hs0=>?_)
              clear hK K hs0
              try simp only [Act.put,List.getElem_toArray,List.getElem_cons_zero,List.getElem_cons_succ,List.setIfInBounds_toArray,List.set_cons_zero,List.set_cons_succ]
              refine wpAnyH_take (i:=41) (v:=?_) rfl (by kernel_rfl) (by kernel_rfl) (by kernel_rfl) (fun _ _ _ h=>h) (Or.inl ⟨by rfl,?_⟩) (hL.out _ hby) ?_
              rotate_left
              · (intro w hc;obtain ⟨h0,h1,h2,g0,g1,g2,g3,g4,g5,f0,f1,f2,f3,f4,f5⟩:=hc;go_simp;try with_reducible rfl)
              simp only [Act.put,List.getElem_toArray,List.getElem_cons_zero,List.getElem_cons_succ,List.setIfInBounds_toArray,List.set_cons_zero,List.set_cons_succ]
              refine wpAnyH_take (i:=42) (v:=?_) rfl (by kernel_rfl) (by kernel_rfl) (by kernel_rfl) (fun _ _ _ h=>h) (Or.inl ⟨by rfl,?_⟩) (hL.out _ hby) ?_
              rotate_left
              · (intro w hc;obtain ⟨h0,h1,h2,g0,g1,g2,g3,g4,g5,f0,f1,f2,f3,f4,f5⟩:=hc;go_simp;try with_reducible rfl)
              simp only [Act.put,List.getElem_toArray,List.getElem_cons_zero,List.getElem_cons_succ,List.setIfInBounds_toArray,List.set_cons_zero,List.set_cons_succ]
              refine wpAnyH_take (i:=43) (v:=?_) rfl (by kernel_rfl) (by kernel_rfl) (by kernel_rfl) (fun _ _ _ h=>h) (Or.inl ⟨by rfl,?_⟩) (hL.out _ hby) ?_
              rotate_left
              · (intro w hc;obtain ⟨h0,h1,h2,g0,g1,g2,g3,g4,g5,f0,f1,f2,f3,f4,f5⟩:=hc;go_simp;try with_reducible rfl)
              simp only [Act.put,List.getElem_toArray,List.getElem_cons_zero,List.getElem_cons_succ,List.setIfInBounds_toArray,List.set_cons_zero,List.set_cons_succ]
              refine wpAnyH_done (by kernel_rfl) ?_ _
              clear hL C
              go_wp2_with fail
              go_roundg g
              case measure=>omega
              case rel=>exact ⟨q+1,by omega,by go_num,hK9.out _ (by assumption)⟩
end Go.Proofs.YtkacnnhdfkpenaaGreatDoor.LSJoins
