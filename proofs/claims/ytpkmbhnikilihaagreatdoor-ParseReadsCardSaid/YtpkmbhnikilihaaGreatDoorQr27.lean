/- The document's reader: a definition: fragments, and all of it (gen_prdef.py wrote it.) -/
import Derived.Test.YtpkmbhnikilihaaGreatDoorQr26
set_option maxRecDepth 100000
set_option maxHeartbeats 16000000
namespace Go.Proofs.YtpkmbhnikilihaaGreatDoor
open Go.RowKit
variable {nT:Nat}
theorem Yk9 {S:StP} {us:List Tok} (h:Ue S=.ok us):S=.ok us:=by
 unfold Ue at h
 split at h
 · rcases S with y|ts
   · exact h
   · cases h
 · exact h
theorem Yiu {S:StP} {us:List Tok} (h:Em S=.ok us):S=.ok us:=by
 unfold Em at h
 split at h
 · exact h
 · rcases S with y|ts
   · exact h
   · cases h
theorem Yg7 (ts:List Tok) (r q B:Nat) (w:World) (V1 V2:Value) (l1 l2:TrL) (xs1 xs2:List Value) (P1 X1 P2 X2:Nat→Prop) (hG:Ze ts) (hL:ts.length≤200000) (h:RP nT w r 0 (.ok ts)) (hK:RDK r q B w V1 V2 l1 l2 xs1 xs2 P1 X1 P2 X2) (_hn1:l1.len≤200001) (hn2:l2.len≤200001) (h1:isS 1 omB (.ok ts)=false) (h2:isS 2 J2 (.ok ts)=false) (h3:isS 2 Nz (.ok ts)=false) (h4:isS 2 Cr (.ok ts)=true):Calls Tryz.prog 44 #[.pointer (some ⟨r,0,none⟩),.pointer (some ⟨q,0,none⟩)] w (Ych nT r q B ts l1 l2 w):=by
 obtain ⟨i0,hi,hz0,hz1,hz2⟩:=info_parts Yi8
 have HRK:=Hd hK
 have hrlt:=h.lt
 have HI:=Hd (ris r 0 (.ok ts) omB w h)
 rw [h1] at HI
 have HR:=Hd ((Yeu h1 h2 h3 h4).trans (congrArg (Eh Ydo.frag) ((show Ud 0 ts.tail=Za (Ud 0) (.ok ts.tail) from rfl).trans (Ygc 0 (.ok ts.tail)))))
 obtain ⟨e0,t0⟩:=Tg h4
 have NW:=Hd e0
 have G1:Hid (∀ us,Ue (.ok ts.tail)=.ok us→Ze us∧us.length≤200000):=Hd (fun us e=>by
  have e:=Except.ok.inj (Yk9 e)
  rw [← e]
  have hs:=Zf (show atB 2 Cr ts=true from h4)
  exact ⟨Zr hs.1 hG,Nat.le_trans (Nat.le_of_lt hs.2) hL⟩)
 have NS0:=Hd (Ib (fun us e=>(G1.out us e).1))
 have G7:Hid (∀ us,(nmS (Em (nmS (Ue (.ok ts.tail)))))=.ok us→Ze us∧us.length≤200000):=Hd (fun us e=>by
  obtain ⟨u1,e1,s1,l1⟩:=Un e
  obtain ⟨u2,e2,s2,l2⟩:=Un (Yiu e1)
  have hg:=G1.out _ e2
  exact ⟨Zr s1 (Zr s2 hg.1),by omega⟩)
 have NS1:=Hd (Ib (fun us e=>(G7.out us e).1))
 have G4:Hid (∀ us,(nmS (nmS (Em (nmS (Ue (.ok ts.tail))))))=.ok us→Ze us∧us.length≤200000):=Hd (fun us e=>by
  obtain ⟨u1,e1,s1,l1⟩:=Un e
  have hg:=G7.out _ e1
  exact ⟨Zr s1 hg.1,by omega⟩)
 have G5:Hid (∀ us,(Yk (Za (Zp true 0) (nmS (nmS (Em (nmS (Ue (.ok ts.tail))))))))=.ok us→Ze us∧us.length≤200000):=Hd (fun us e=>by
  obtain ⟨a,e1,_⟩:=J0 e
  obtain ⟨vs,e2,hp⟩:=Xs e1
  have hs:=Im true 0 vs a us hp
  exact ⟨Zr hs (G4.out _ e2).1,Nat.le_trans hs.length_le (G4.out _ e2).2⟩)
 have HDR:=fun wy (hr:RP nT wy r 0 (nmS (nmS (Em (nmS (Ue (.ok ts.tail)))))))=>Hd (Zvb true 0 r (nmS (nmS (Em (nmS (Ue (.ok ts.tail)))))) wy (fun us e=>(G4.out us e).1) (fun us e=>(G4.out us e).2) (by decide) hr)
 have HSR:=fun wx (hr:RP nT wx r 0 (Yk (Za (Zp true 0) (nmS (nmS (Em (nmS (Ue (.ok ts.tail)))))))))=>Hd ((C0 200000 (Nat.le_refl _)).2 0 (Yk (Za (Zp true 0) (nmS (nmS (Em (nmS (Ue (.ok ts.tail)))))))) r wx (fun us e=>(G5.out us e).1) (fun us e=>(G5.out us e).2) (by decide) hr)
 have HQ2:=Hd h2
 have HQ3:=Hd h3
 have HQ4:=Hd h4
 have HH:=Hd h
 obtain ⟨A2,c2,rfl⟩:=Yw hK.r2.own
 clear h hK hG hL h1 h2 h3 h4 t0 e0
 go_enter Tryz.func44,Tryz.ntmps44
 go_wp2_with fail
 refine HI.out.mono ?_
 rintro e w1 ⟨rfl,hb1⟩
 have M1:=Hd (Z0.of_below (r:=r) hb1)
 have R1:=Hd (HH.out.below hb1)
 clear hb1 HI HH
 have SA:=Hd (O8 r 0 (.ok ts) J2 _ R1.out)
 rw [HQ2.out] at SA
 go_wp2_with fail
 refine SA.out.mono ?_
 rintro e w2 ⟨rfl,hb2⟩
 have R2:=Hd (R1.out.below hb2)
 have M2:=Hd (M1.out.trans (Z0.of_below (r:=r) hb2))
 clear hb2 SA R1 M1
 have R1:=R2
 have M1:=M2
 clear R2 M2
 have SA:=Hd (O8 r 0 (.ok ts) Nz _ R1.out)
 rw [HQ3.out] at SA
 go_wp2_with fail
 refine SA.out.mono ?_
 rintro e w3 ⟨rfl,hb2⟩
 have R2:=Hd (R1.out.below hb2)
 have M2:=Hd (M1.out.trans (Z0.of_below (r:=r) hb2))
 clear hb2 SA R1 M1
 have R1:=R2
 have M1:=M2
 clear R2 M2
 have SA:=Hd (O8 r 0 (.ok ts) Cr _ R1.out)
 rw [HQ4.out] at SA
 go_wp2_with fail
 refine SA.out.mono ?_
 rintro e w4 ⟨rfl,hb2⟩
 have R2:=Hd (R1.out.below hb2)
 have M2:=Hd (M1.out.trans (Z0.of_below (r:=r) hb2))
 clear hb2 SA R1 M1
 have R1:=R2
 have M1:=M2
 clear R2 M2
 have NM:=Hd (L2 r 0 (.ok ts) _ R1.out)
 rw [NW.out] at NM
 go_wp2_with fail
 refine NM.out.mono ?_
 rintro e w5 ⟨rfl,h5,m5⟩
 have OT:=Hd (Ymg r 0 (.ok ts.tail) w5 h5)
 have M5:=Hd (M1.out.trans m5)
 clear h5 m5 NM R1 M1
 go_wp2_with fail
 refine OT.out.mono ?_
 rintro e w6 ⟨rfl,h6,m6⟩
 have K2:=Hd (Q2.make (M5.out.trans m6) hrlt h6 #[.string (nmV (Ue (.ok ts.tail))),.string ⟨#[]⟩,.slice none 0 0,.slice none 0 0] 87)
 have SD:=Hd (O8 r 0 (nmS (Ue (.ok ts.tail))) onB _ K2.out.rd)
 clear h6 m6 OT M5
 refine Or.elim (Bool.eq_false_or_eq_true (isS 2 onB (nmS (Ue (.ok ts.tail))))) (fun hon=>?_) (fun hon=>?_)
 focus
  rw [hon] at SD
  go_wp2_with fail
  refine SD.out.mono ?_
  rintro e w8 ⟨rfl,hb7⟩
  have K3:=Hd (K2.out.next (K2.out.rd.below hb7) (Z0.of_below hb7))
  have hm:Em (nmS (Ue (.ok ts.tail)))=(nmS (Ue (.ok ts.tail))):=by unfold Em;rw [if_pos hon]
  rw [← hm] at K3
  have K4:=K3
  have NM:=Hd (L2 r 0 (Em (nmS (Ue (.ok ts.tail)))) _ K4.out.rd)
  go_wp2_with fail
  clear hb7 SD K2 hon hm K3
 rotate_left
 focus
  rw [hon] at SD
  go_wp2_with fail
  refine SD.out.mono ?_
  rintro e w7 ⟨rfl,hb7⟩
  have K3:=Hd (K2.out.next (K2.out.rd.below hb7) (Z0.of_below hb7))
  have hm:Em (nmS (Ue (.ok ts.tail)))=B7 2 (nmS (Ue (.ok ts.tail))):=by unfold Em;rw [if_neg (by rw [hon];simp)]
  have FL:=Hd (Rm r 0 (nmS (Ue (.ok ts.tail))) 2 (by decide) _ K3.out.rd)
  rw [← hm] at FL
  go_wp2_with fail
  refine FL.out.mono ?_
  rintro e w8 ⟨rfl,h8,m8⟩
  have K4:=Hd (K3.out.next h8 m8)
  have NM:=Hd (L2 r 0 (Em (nmS (Ue (.ok ts.tail)))) _ K4.out.rd)
  go_wp2_with fail
  clear hb7 SD K2 hon hm K3 h8 m8 FL
 all_goals
  refine NM.out.mono ?_
  rintro e w9 ⟨rfl,h9,m9⟩
  have K5:=Hd (K4.out.next h9 m9)
  have NB:=Hd (L2 r 0 (nmS (Em (nmS (Ue (.ok ts.tail))))) _ K5.out.rd)
  clear h9 m9 NM K4
  go_wp2_with fail
  refine NB.out.mono ?_
  rintro e wa ⟨rfl,ha,ma⟩
  have K6:=Hd (K5.out.next ha ma)
  obtain ⟨y0,y1,y2,y3,yz⟩:=Z8 K6.out.loc
  have yf1:=yz 1
  have K7:Hid (Q2 nT w r (wa.setCell ⟨w6.heap.size,1,none⟩ (.string (nmV (nmS (Em (nmS (Ue (.ok ts.tail)))))))) (w6.heap.size) (.cells #[.string (nmV (Ue (.ok ts.tail))),.string (nmV (nmS (Em (nmS (Ue (.ok ts.tail)))))),.slice none 0 0,.slice none 0 0] 87 (0,0)) (nmS (nmS (Em (nmS (Ue (.ok ts.tail)))))) 0):=Hd (K6.out.put 1 (.string (nmV (nmS (Em (nmS (Ue (.ok ts.tail))))))))
  have DI:=HDR _ K7.out.rd
  clear ha ma yz NB K5 K6
  go_wp2_with fail
  clear y0 y1 y2 y3 yf1
  refine DI.out.mono ?_
  rintro e wb0 ⟨A3,n3,k3,rfl,⟨x2,hx,hxe⟩,h9,m9⟩
  have KA:=Hd (K7.out.next h9 m9)
  have HX2:=Hd hxe
  have OA2:=Hd (OvS.of (show TS _ (Zs _ wb0) (.cons (.row x2) .nil) [.slice A3 n3 k3] from TS.row hx (TS.nil _ _)) K7.out.blt)
  clear hx hxe h9 m9 DI K7
  obtain ⟨y0,y1,y2,y3,yz⟩:=Z8 KA.out.loc
  have yf2:=yz 2
  have KB2:Hid (Q2 nT w r (wb0.setCell ⟨w6.heap.size,2,none⟩ (.slice A3 n3 k3)) (w6.heap.size) (.cells #[.string (nmV (Ue (.ok ts.tail))),.string (nmV (nmS (Em (nmS (Ue (.ok ts.tail)))))),.slice A3 n3 k3,.slice none 0 0] 87 (0,0)) (Yk (Za (Zp true 0) (nmS (nmS (Em (nmS (Ue (.ok ts.tail)))))))) 0):=Hd (KA.out.put 2 (.slice A3 n3 k3))
  have O2:=Hd (OA2.out.put (Nat.le_refl _) (i:=2) (v:=.slice A3 n3 k3))
  clear yz KA OA2
  have SI:=HSR _ KB2.out.rd
  go_wp2_with fail
  clear y0 y1 y2 y3 yf2
  refine SI.out.mono ?_
  rintro e wb1 ⟨A4,n4,k4,rfl,⟨x3,hx,hxe⟩,h9,m9⟩
  have KA:=Hd (KB2.out.next h9 m9)
  have HX3:=Hd hxe
  have OA3:=Hd (OvS.of (show TS _ (Zs _ wb1) (.cons (.row x3) .nil) [.slice A4 n4 k4] from TS.row hx (TS.nil _ _)) KB2.out.blt)
  have OA2:=Hd (O2.out.next m9 KB2.out.rb)
  clear hx hxe h9 m9 SI KB2 O2
  obtain ⟨y0,y1,y2,y3,yz⟩:=Z8 KA.out.loc
  have yf3:=yz 3
  have KB3:Hid (Q2 nT w r (wb1.setCell ⟨w6.heap.size,3,none⟩ (.slice A4 n4 k4)) (w6.heap.size) (.cells #[.string (nmV (Ue (.ok ts.tail))),.string (nmV (nmS (Em (nmS (Ue (.ok ts.tail)))))),.slice A3 n3 k3,.slice A4 n4 k4] 87 (0,0)) (Yk (Za (X8 0) (Yk (Za (Zp true 0) (nmS (nmS (Em (nmS (Ue (.ok ts.tail)))))))))) 0):=Hd (KA.out.put 3 (.slice A4 n4 k4))
  have O2:=Hd (OA2.out.put (Nat.le_refl _) (i:=3) (v:=.slice A4 n4 k4))
  have O3:=Hd (OA3.out.put (Nat.le_refl _) (i:=3) (v:=.slice A4 n4 k4))
  clear yz KA OA2 OA3
  obtain ⟨wz,hwz⟩:∃ W,wb1.setCell ⟨w6.heap.size,3,none⟩ (.slice A4 n4 k4)=W:=⟨_,rfl⟩
  have KD:=Hd (KB3.out.next (KB3.out.rd.below (Below.drew (Below.refl _ _))) (Z0.of_below (Below.drew (Below.refl _ _))))
  have K3:=Hd (HRK.out.next KD.out.mv)
  have P2:=Hd (O2.out.next (Z0.of_below (r:=r) (Below.drew (Below.refl _ _))) KB3.out.rb)
  have P3:=Hd (O3.out.next (Z0.of_below (r:=r) (Below.drew (Below.refl _ _))) KB3.out.rb)
  rw [hwz] at KD K3 P2 P3
  go_upto_region 23 with fail
  clear y0 y1 y2 y3 yf3 KB3 O2 O3
  obtain ⟨u0,u1,u2,u3,uz⟩:=Z8 KD.out.loc
  obtain ⟨j0,j1,jz⟩:=ptc K3.out.loc
  have jf0:=jz 0
  have jf1:=jz 1
  clear jz uz
  have TS3:=Hd (TS.str NS0.out (TS.str NS1.out (Ap (TS.keep (fun b hb=>⟨⟨by have:=hb.1;have:=KD.out.bl;omega,hb.2⟩,rfl⟩) _ _ P2.out) (TS.keep (fun b hb=>⟨⟨by have:=hb.1;have:=KD.out.bl;omega,hb.2⟩,rfl⟩) _ _ P3.out))):TS _ (Zs w _) (.cons (.one (.string (nmV (Ue (.ok ts.tail))))) (.cons (.one (.string (nmV (nmS (Em (nmS (Ue (.ok ts.tail)))))))) (.cons (.row x2) (.cons (.row x3) .nil)))) [.string (nmV (Ue (.ok ts.tail))),.string (nmV (nmS (Em (nmS (Ue (.ok ts.tail)))))),.slice A3 n3 k3,.slice A4 n4 k4])
  clear P2 P3
  have jA:=fun o=>(show (wz.alloc o).cell? ⟨q,1,none⟩=some _ from (World.cell?_of_block (a:=⟨q,1,none⟩) (Below.heap_alloc wz o _ (Nat.lt_of_lt_of_le K3.out.qB K3.out.lt))).trans j1)
  have hBw:B≤wz.heap.size:=K3.out.lt
  refine wp_region_held_drew (S:=fun _=>True) (by kernel_rfl) trivial (fun _=>?_)
  refine tkE (i:=0) (v:=?_) rfl (Or.inl ⟨by rfl,?_⟩) ?_
  rotate_left
  · (intro w _;go_simp;try with_reducible rfl)
  simp only [Act.put,List.setIfInBounds_toArray]
  refine tkE (i:=1) (v:=?_) rfl (Or.inl ⟨by rfl,?_⟩) ?_
  rotate_left
  · (intro w _;go_simp;try with_reducible rfl)
  simp only [Act.put]
  refine tkE (i:=2) (v:=?_) rfl (Or.inl ⟨by rfl,?_⟩) ?_
  rotate_left
  · (intro w _;go_simp;try with_reducible rfl)
  simp only [Act.put]
  refine tkE (i:=3) (v:=?_) rfl (Or.inl ⟨by rfl,?_⟩) ?_
  rotate_left
  · (intro w _;go_simp;try with_reducible rfl)
  simp only [Act.put]
  refine rd2E 4 5 rfl rfl (fun KK hKK=>?_) (fun KK hKK=>?_)
  focus
    go_simp
    refine hKK.out _ _ trivial (fun _=>?_)
    clear hKK KK
    try simp only [Act.put,stT,stZ,stS]
    refine rd1E 5 rfl (fun KK hKK=>?_)
    go_simp
    refine hKK.out _ _ trivial (fun _=>?_)
    clear hKK KK
    try simp only [Act.put,stT,stZ,stS]
    refine rd1E 6 rfl (fun KK hKK=>?_)
    go_simp
    refine hKK.out _ _ trivial (fun _=>?_)
    clear hKK KK
    try simp only [Act.put,stT,stZ,stS]
    refine rd1E 7 rfl (fun KK hKK=>?_)
    skip
  rotate_left
  focus
    go_simp
    refine hKK.out _ _ trivial (fun _=>?_)
    clear hKK KK
    try simp only [Act.put,stT,stZ,stS]
    refine rd2E 4 6 rfl rfl (fun KK hKK=>?_) (fun KK hKK=>?_)
    focus
      go_simp
      refine hKK.out _ _ trivial (fun _=>?_)
      clear hKK KK
      try simp only [Act.put,stT,stZ,stS]
      refine rd1E 6 rfl (fun KK hKK=>?_)
      go_simp
      refine hKK.out _ _ trivial (fun _=>?_)
      clear hKK KK
      try simp only [Act.put,stT,stZ,stS]
      refine rd1E 7 rfl (fun KK hKK=>?_)
      skip
    rotate_left
    focus
      go_simp
      refine hKK.out _ _ trivial (fun _=>?_)
      clear hKK KK
      try simp only [Act.put,stT,stZ,stS]
      refine rd1E 4 rfl (fun KK hKK=>?_)
      go_simp
      refine hKK.out _ _ trivial (fun _=>?_)
      clear hKK KK
      try simp only [Act.put,stT,stZ,stS]
      refine rd1E 7 rfl (fun KK hKK=>?_)
      skip
  all_goals
    refine step_append_lies _ (by rfl) _ _ 24 (by rfl) B 87 i0 (.agg #[.string ⟨#[]⟩,.string ⟨#[]⟩,.slice none 0 0,.slice none 0 0]) 4 80 Tryz.underlying24 hi hz0 hz1 hz2 (by rfl) (by decide) _ l2.len xs2 (by rfl) (Xn K3.out.r2.own ((Below.refl _ _).alloc (Nat.le_refl _) _)) _ 1 1 [.string (nmV (Ue (.ok ts.tail))),.string (nmV (nmS (Em (nmS (Ue (.ok ts.tail)))))),.slice A3 n3 k3,.slice A4 n4 k4] (by rfl) (by rfl) (fun j u hj=>World.news_of_block (heap_alloc_new _ _) j u hj) (by intro y hy;simp at hy;rcases hy with rfl|rfl|rfl|rfl<;>rfl) (by decide) (by unfold maxLen;omega) (by omega) (by have h1:=K3.out.lt;simp;omega) _ (by rfl) ?_
    intro gg cap2 w4 hown4 hgrow hat hlt4
    have HG4:=Hd hgrow
    have HO4:=Hd hown4
    have HT4:=Hd hat
    have HL4:=Hd (K3.out.grown hgrow K3.out.own2)
    clear hgrow hown4 hat j0 j1 jf0 jf1
    obtain ⟨z0,z1,zz⟩:=ptc HL4.out.1
    have zf0:=zz 0
    have zf1:=zz 1
    clear zz
    refine hKK.out _ _ trivial (fun _=>?_)
    clear hKK KK
    simp only [Act.put,List.setIfInBounds_toArray]
    refine tkE (i:=8) (v:=?_) rfl (Or.inl ⟨by rfl,?_⟩) ?_
    rotate_left
    · (intro w _;go_simp;try with_reducible rfl)
    simp only [Act.put]
    refine tkE (i:=9) (v:=?_) rfl (Or.inl ⟨by rfl,?_⟩) ?_
    rotate_left
    · (intro w _;go_simp;try with_reducible rfl)
    simp only [Act.put]
    refine rd1E 10 rfl (fun KK hKK=>?_)
    go_simp
    refine hKK.out _ _ trivial (fun _=>?_)
    clear hKK KK
    try simp only [Act.put,stT,stZ,stS]
    refine wpAnyH_done (by kernel_rfl) ?_ _
    obtain ⟨P5,K5⟩:=RDK.app2 HRK.out KD.out.mv (TS3.out) HO4.out HG4.out HT4.out
    have RG:=((KD.out.rd).below (blw _ _)).grown HG4.out (fun b hb=>by have:=K3.out.own2 b hb;have:=K3.out.rB;omega)
    have S4:=((Ik.of KD.out.mv HRK.out.lt:Ik B r q w _).grown K3.out.lt HG4.out K3.out.own2).put (i:=1) (v:=.slice (some ⟨gg,0,none⟩) (l2.len+1) cap2)
    have R5:=RG.set (b:=q) (i:=1) (v:=.slice (some ⟨gg,0,none⟩) (l2.len+1) cap2) HRK.out.rq
    clear z0 z1 zf0 zf1
    go_wp2_with fail
    go_end0
    refine ⟨rfl,S4,?_,_,_,_,_,_,_,_,_,_,_,K5,by rw [TrL.snoc_len];omega,fun x us e=>?_⟩
    · rw [HR.out,Yc,Yc];exact R5
    · rw [HR.out] at e
      obtain ⟨o,e2,rfl⟩:=Jp e
      obtain ⟨v,e3,rfl⟩:=Jp e2
      obtain ⟨us5,e4,_⟩:=Xs e3
      obtain ⟨ds,e5,hz⟩:=J0 e4
      rw [HX2.out ds us5 e5,HX3.out v us e3]
      simp only [hz]
      rfl
theorem Ygr (ts:List Tok) (r q B:Nat) (w:World) (V1 V2:Value) (l1 l2:TrL) (xs1 xs2:List Value) (P1 X1 P2 X2:Nat→Prop) (_hG:Ze ts) (_hL:ts.length≤200000) (h:RP nT w r 0 (.ok ts)) (hK:RDK r q B w V1 V2 l1 l2 xs1 xs2 P1 X1 P2 X2) (_hn1:l1.len≤200001) (_hn2:l2.len≤200001) (h1:isS 1 omB (.ok ts)=false) (h2:isS 2 J2 (.ok ts)=false) (h3:isS 2 Nz (.ok ts)=false) (h4:isS 2 Cr (.ok ts)=false):Calls Tryz.prog 44 #[.pointer (some ⟨r,0,none⟩),.pointer (some ⟨q,0,none⟩)] w (Ych nT r q B ts l1 l2 w):=by
 have HRK:=Hd hK
 have HI:=Hd (ris r 0 (.ok ts) omB w h)
 rw [h1] at HI
 have HR:=Hd (Ydr h1 h2 h3 h4)
 have HQ2:=Hd h2
 have HQ3:=Hd h3
 have HQ4:=Hd h4
 have HH:=Hd h
 clear h hK h1 h2 h3 h4
 go_enter Tryz.func44,Tryz.ntmps44
 go_wp2_with fail
 refine HI.out.mono ?_
 rintro e w1 ⟨rfl,hb1⟩
 have M1:=Hd (Z0.of_below (r:=r) hb1)
 have R1:=Hd (HH.out.below hb1)
 clear hb1 HI HH
 have SA:=Hd (O8 r 0 (.ok ts) J2 _ R1.out)
 rw [HQ2.out] at SA
 go_wp2_with fail
 refine SA.out.mono ?_
 rintro e w2 ⟨rfl,hb2⟩
 have R2:=Hd (R1.out.below hb2)
 have M2:=Hd (M1.out.trans (Z0.of_below (r:=r) hb2))
 clear hb2 SA R1 M1
 have R1:=R2
 have M1:=M2
 clear R2 M2
 have SA:=Hd (O8 r 0 (.ok ts) Nz _ R1.out)
 rw [HQ3.out] at SA
 go_wp2_with fail
 refine SA.out.mono ?_
 rintro e w3 ⟨rfl,hb2⟩
 have R2:=Hd (R1.out.below hb2)
 have M2:=Hd (M1.out.trans (Z0.of_below (r:=r) hb2))
 clear hb2 SA R1 M1
 have R1:=R2
 have M1:=M2
 clear R2 M2
 have SA:=Hd (O8 r 0 (.ok ts) Cr _ R1.out)
 rw [HQ4.out] at SA
 go_wp2_with fail
 refine SA.out.mono ?_
 rintro e w4 ⟨rfl,hb2⟩
 have R2:=Hd (R1.out.below hb2)
 have M2:=Hd (M1.out.trans (Z0.of_below (r:=r) hb2))
 clear hb2 SA R1 M1
 have R1:=R2
 have M1:=M2
 clear R2 M2
 have FL:=Hd (Rm r 0 (.ok ts) 2 (by decide) _ R1.out)
 go_wp2_with fail
 refine FL.out.mono ?_
 rintro e w8 ⟨rfl,h8,m8⟩
 have K8:=Hd h8
 have M8:=Hd (M1.out.trans m8)
 clear h8 m8 FL R1 M1
 go_wp2_with fail
 go_end0
 refine ⟨rfl,Ik.of M8.out HRK.out.lt,by rw [HR.out];exact K8.out,_,_,_,_,_,_,_,_,_,_,HRK.out.next M8.out,by omega,fun x us e=>?_⟩
 rw [HR.out] at e
 cases e
theorem Ynw (ts:List Tok) (r q B:Nat) (w:World) (V1 V2:Value) (l1 l2:TrL) (xs1 xs2:List Value) (P1 X1 P2 X2:Nat→Prop) (hG:Ze ts) (hL:ts.length≤200000) (h:RP nT w r 0 (.ok ts)) (hK:RDK r q B w V1 V2 l1 l2 xs1 xs2 P1 X1 P2 X2) (hn1:l1.len≤200001) (hn2:l2.len≤200001):Calls Tryz.prog 44 #[.pointer (some ⟨r,0,none⟩),.pointer (some ⟨q,0,none⟩)] w (Ych nT r q B ts l1 l2 w):=by
 cases h1:isS 1 omB (.ok ts) with
 | true=>exact Yf9 ts r q B w V1 V2 l1 l2 xs1 xs2 P1 X1 P2 X2 hG hL h hK hn1 hn2 h1
 | false =>
   cases h2:isS 2 J2 (.ok ts) with
   | true=>exact Yi4 ts r q B w V1 V2 l1 l2 xs1 xs2 P1 X1 P2 X2 hG hL h hK hn1 hn2 0 (.inl ⟨h2,rfl⟩) h1
   | false =>
     cases h3:isS 2 Nz (.ok ts) with
     | true=>exact Yi4 ts r q B w V1 V2 l1 l2 xs1 xs2 P1 X1 P2 X2 hG hL h hK hn1 hn2 1 (.inr ⟨h2,h3,rfl⟩) h1
     | false =>
       cases h4:isS 2 Cr (.ok ts) with
       | true=>exact Yg7 ts r q B w V1 V2 l1 l2 xs1 xs2 P1 X1 P2 X2 hG hL h hK hn1 hn2 h1 h2 h3 h4
       | false=>exact Ygr ts r q B w V1 V2 l1 l2 xs1 xs2 P1 X1 P2 X2 hG hL h hK hn1 hn2 h1 h2 h3 h4
variable {nT:Nat}
theorem RP.place {w:World} {r d:Nat} {ts:List Tok} (h:RP nT w r d (.ok ts)):∃ (A:Option Addr) (c p:Nat) (dd:Int),w.heap[r]? = some (.cells #[.slice A nT c,.int .i64 p,.int .i64 dd,.int .i64 0] 81 (0,0))∧p+ts.length=nT∧ts.length≤200000:=by
 obtain ⟨A,c,p,dd,x,all,h0,h1,h2,h3,h5,h4,h6,h7⟩:=h
 subst h4 h7
 refine ⟨A,c,p,dd,by rw [← h5];exact h0,by rw [List.length_drop,← h5];omega,by rw [List.length_drop];omega⟩
theorem RDK.start {w:World} {r:Nat} (hr:r < w.heap.size):RDK r w.heap.size (w.heap.size+1) (w.alloc (Ybn (.slice none 0 0) (.slice none 0 0))) (.slice none 0 0) (.slice none 0 0) .nil .nil [] [] (fun _=>False) (fun _=>False) (fun _=>False) (fun _=>False):=
 ⟨heap_alloc_new _ _,RX.start _ _ _ _,RX.start _ _ _ _,fun _ h=>h.elim,fun _ h=>h.elim,fun _ h=>h.elim,by omega,by omega,hr,by simp⟩
theorem RDK.tree {r q B:Nat} {W:World} {V1 V2:Value} {D:Vs} {xs1 xs2:List Value} {P1 X1 P2 X2:Nat→Prop} (h:RDK r q B W V1 V2 (Z5 Ya D.ops) (Z5 Ur D.frags) xs1 xs2 P1 X1 P2 X2) (h1:D.ops.length≤9223372036854775807) (h2:D.frags.length≤9223372036854775807):OvS q W (J1 D) [V1,V2]:=by
 have f1:=(show RTr _ _ _ _ _ _ from ⟨xs1,P1,h.r1.own,h.r1.val,h.r1.bd⟩:RTr 68 5 B W V1 (Z5 Ya D.ops)).fin (by rw [Zt];exact h1)
 have f2:=(show RTr _ _ _ _ _ _ from ⟨xs2,P2,h.r2.own,h.r2.val,h.r2.bd⟩:RTr 87 4 B W V2 (Z5 Ur D.frags)).fin (by rw [Zt];exact h2)
 have hq:=h.qB
 unfold J1 OvS
 exact TS.row (TP.keep (fun b hb=>⟨⟨by have:=hb.1;omega,hb.2⟩,rfl⟩) _ _ f1) (TS.row (TP.keep (fun b hb=>⟨⟨by have:=hb.1;omega,hb.2⟩,rfl⟩) _ _ f2) (TS.nil _ _))
theorem Yhd (D:Vs) (x:Ydo):Ymy (Z5 Ya D.ops) (Z5 Ur D.frags) x=(Z5 Ya (Zq9 D x).ops,Z5 Ur (Zq9 D x).frags):=by
 cases x with
 | op x=>simp only [Ymy,Zq9,Xa]
 | frag x=>simp only [Ymy,Zq9,Xa]
theorem Ygp (D:Vs) (x:Ydo):(Zq9 D x).ops.length+(Zq9 D x).frags.length=D.ops.length+D.frags.length+1:=by
 cases x<;>simp [Zq9]<;>omega
def Ydf (g:Nat) (D:Vs) (fb:Bool) (R:Except Int Vs) (l1 l2:TrL):StP→Prop
 | .error y=>R=.error y
 | .ok ts=>l1=Z5 Ya D.ops∧l2=Z5 Ur D.frags∧Ze ts∧ts.length+1≤g∧D.ops.length+D.frags.length+ts.length≤200000∧(if fb=true∨ts ≠ [] then Mf g D ts=R else R=.ok D)
theorem Yd6 {g:Nat} {D:Vs} {fb:Bool} {R:Except Int Vs} {l1 l2 k1 k2:TrL} {ts:List Tok} (h:Ydf (g+1) D fb R l1 l2 (.ok ts)) (hr:fb=true∨ts ≠ []) (hk:∀ x us,Be ts=.ok (x,us)→(k1,k2)=Ymy l1 l2 x):∃ D',Ydf g D' false R k1 k2 (Yk (Be ts)):=by
 obtain ⟨rfl,rfl,hG,hg,hl,hd⟩:=h
 rw [if_pos hr,Mf,Qv] at hd
 cases ho:Be ts with
 | error y =>
   rw [show Zk Be (fun x=>Il (Zq9 D x)) ts=.error y by unfold Zk;rw [ho]] at hd
   exact ⟨D,hd.symm⟩
 | ok p =>
   obtain ⟨x,us⟩:=p
   have hk:=hk x us ho
   rw [Yhd] at hk
   obtain ⟨rfl,rfl⟩:=Prod.mk.inj hk
   have hdef:Zzg D ts=.ok (Zq9 D x,us):=by rw [Qv];unfold Zk;rw [ho];rfl
   have hs:=Yji hdef
   have h2:=hs.2
   rw [← Qv,hdef] at hd
   refine ⟨Zq9 D x,(show Ydf g (Zq9 D x) false R _ _ (.ok us) from ⟨rfl,rfl,Zr hs.1 hG,by omega,by have:=Ygp D x;omega,?_⟩)⟩
   cases us with
   | nil=>rw [if_neg (by simp)];exact hd.symm
   | cons t us=>rw [if_pos (.inr (by simp))];exact hd
theorem Yay (s:ByteArray) (w:World) (hs:s.size≤9000):Calls Tryz.prog 15 #[.string s] w fun e w'=>∃ (A0:Option Addr) (n0 k0:Nat) (A1:Option Addr) (n1 k1:Nat) (x:Int),e=.returned (.tuple #[.agg #[.slice A0 n0 k0,.slice A1 n1 k1],.int .i64 x])∧Res J1 [.slice none 0 0,.slice none 0 0] w w' (Um Ll s.data.toList) x [.slice A0 n0 k0,.slice A1 n1 k1]∧Below w.heap.size w w':=by
 have B0:=Hd (blw w (.cells #[.slice none 0 0,.slice none 0 0] 26))
 have Y0:=Hd (heap_alloc_last w (.cells #[.slice none 0 0,.slice none 0 0] 26))
 have hsz0:Hid ((w.alloc (.cells #[.slice none 0 0,.slice none 0 0] 26)).heap.size=w.heap.size+1):=Hd (by simp)
 have HT:=Hd (Zj1 s (w.alloc (.cells #[.slice none 0 0,.slice none 0 0] 26)) hs)
 have HL:=Hd (Bx (s:=s) hs)
 have HG:=Hd (Cd hs)
 obtain ⟨l,hl⟩:∃ l,s.data.toList=l:=⟨_,rfl⟩
 rw [hl] at HT HL HG ⊢
 obtain ⟨R,hR⟩:∃ R,Um Ll l=R:=⟨_,rfl⟩
 have HR0:Hid (Ydf ((Zq l).1.length+1) ⟨[],[]⟩ true R .nil .nil (Zk4 l)):=Hd (by
  unfold Zk4
  by_cases hx:(Zq l).2 ≠ 0
  · rw [if_pos hx]
    show R=.error _
    rw [← hR];unfold Um;rw [if_pos hx]
  · rw [if_neg hx]
    refine ⟨rfl,rfl,HG.out.1,by rw [U5];omega,by rw [U5];have:=HL.out;simp;omega,?_⟩
    rw [if_pos (.inl rfl),← hR]
    unfold Um
    rw [if_neg hx,← U5]
    show Mc _=_
    unfold Ll
    cases Mc (Lj (Zq l).1) with
    | error y=>rfl
    | ok D=>simp)
 rw [hR]
 clear hs hl hR HG
 go_enter Tryz.func15,Tryz.ntmps15
 go_wp2_with fail
 refine HT.out.mono ?_
 rintro e w1 ⟨⟨A,cap,rfl,hA⟩,hb1⟩
 have B1:=Hd (B0.out.trans (hb1.mono B0.out.size))
 have Y1:=Hd ((hb1.block w.heap.size (by rw [hsz0.out];omega)).trans Y0.out)
 have l1:w.heap.size < w1.heap.size:=by have:=hb1.size;have:=hsz0.out;omega
 have R2:=Hd (Ydz hA (by have:=HL.out;omega))
 have B2:=Hd (B1.out.alloc B1.out.size (.cells #[.slice A (Zq l).1.length cap,.int .i64 0,.int .i64 0,.int .i64 (Zq l).2] 81))
 have Y2:=Hd ((Below.heap_alloc w1 (.cells #[.slice A (Zq l).1.length cap,.int .i64 0,.int .i64 0,.int .i64 (Zq l).2] 81) _ l1).trans Y1.out)
 have LZ:Hid ((w1.alloc (.cells #[.slice A (Zq l).1.length cap,.int .i64 0,.int .i64 0,.int .i64 (Zq l).2] 81)).heap.size=w1.heap.size+1):=Hd (by simp)
 obtain ⟨wp,hwp⟩:∃ W,w1.alloc (.cells #[.slice A (Zq l).1.length cap,.int .i64 0,.int .i64 0,.int .i64 (Zq l).2] 81)=W:=⟨_,rfl⟩
 have K3:=Hd (RDK.start (w:=wp) (r:=w1.heap.size) (by rw [← hwp,LZ.out];omega))
 have R3:=Hd (R2.out.below (blw _ (Ybn (.slice none 0 0) (.slice none 0 0))))
 have B3:=Hd (B2.out.alloc B2.out.size (Ybn (.slice none 0 0) (.slice none 0 0)))
 have Y3:=Hd ((Below.heap_alloc _ (Ybn (.slice none 0 0) (.slice none 0 0)) _ (by rw [LZ.out];omega)).trans Y2.out)
 rw [hwp] at R3 B3 Y3 LZ
 obtain ⟨n0,hn0⟩:∃ n,(Zq l).1.length=n:=⟨_,rfl⟩
 rw [hn0] at HL HR0 R3
 have lp:w.heap.size < w1.heap.size:=l1
 have z3:Hid ((wp.alloc (Ybn (.slice none 0 0) (.slice none 0 0))).heap.size=wp.heap.size+1):=Hd (by simp)
 obtain ⟨w0,hw0⟩:∃ W,wp.alloc (Ybn (.slice none 0 0) (.slice none 0 0))=W:=⟨_,rfl⟩
 rw [hw0] at K3 R3 B3 Y3 z3
 rw [LZ.out] at K3 z3
 have ST0:=Hd (Ik.of (q:=w1.heap.size+1) (Z0.refl w1.heap.size w0) K3.out.lt)
 clear hA hb1 R2 B2 Y2 B0 Y0 hsz0 HT B1 Y1
 go_wp2_with fail
 go_loopg [8] (n0+1) (fun g v wx=>∃ (Sx:StP) (D:Vs) (fb:Bool) (V1 V2:Value) (l1 l2:TrL) (xs1 xs2:List Value) (P1 X1 P2 X2:Nat→Prop),v=.bool fb∧l1.len+l2.len+g≤n0+1∧Aside (RP n0 wx w1.heap.size 0 Sx∧RDK w1.heap.size (w1.heap.size+1) (w1.heap.size+1+1) wx V1 V2 l1 l2 xs1 xs2 P1 X1 P2 X2∧Ik (w1.heap.size+1+1) w1.heap.size (w1.heap.size+1) w0 wx∧Ydf g D fb R l1 l2 Sx))
 case atStart =>
  subst hw0
  subst hwp
  subst hn0
  exact ⟨_,⟨[],[]⟩,true,_,_,_,_,_,_,_,_,_,_,rfl,by show 0+0+_≤_;omega,Zu ⟨R3.out,K3.out,ST0.out,HR0.out⟩⟩
 case round =>
  obtain ⟨Sx,D,fb,V1,V2,l1,l2,xs1,xs2,P1,X1,P2,X2,rfl,hll,HA⟩:=hrel
  have RX:=Hd HA.out.1
  have KX:=Hd HA.out.2.1
  have SX:=Hd HA.out.2.2.1
  have LX:=Hd HA.out.2.2.2
  have YX:=Hd ((SX.out.block w.heap.size (by omega) (by omega) (by omega)).trans Y3.out)
  have BX:=Hd (show Below w.heap.size w wr from ⟨SX.out.os.trans B3.out.os,SX.out.tape.trans B3.out.tape,SX.out.output.trans B3.out.output,Nat.le_trans B3.out.size SX.out.size,fun k hk=>(SX.out.block k (by omega) (by omega) (by omega)).trans (B3.out.block k hk)⟩)
  obtain ⟨q0,q1,qz⟩:=ptc YX.out
  have qf0:=qz 0
  have qf1:=qz 1
  clear HA qz
  rcases Sx with y|ts
  · obtain ⟨A',n',c',p',dd',x0,h0,_,hin⟩:=RX.out.cells
    obtain ⟨rfl,hy⟩:=hin
    obtain ⟨c0,c1,c2,c3,cz⟩:=Z8 h0
    have t0:(x0 == 0)=false:=by simpa using hy
    have t1:(x0 != 0)=true:=by simpa using hy
    have HY:=Hd hy
    clear hy h0 cz
    go_wp2_with fail
    go_region
    go_wp2_with fail
    have FD:((setAll wr w.heap.size 0 [.slice none 0 0,.slice none 0 0]).drew).heap[w.heap.size]? = some (.cells #[.slice none 0 0,.slice none 0 0] 26 (0,0)):=Y9 (ys:=[.slice none 0 0,.slice none 0 0]) (xs:=[.slice none 0 0,.slice none 0 0]) rfl YX.out
    have BD:Below w.heap.size w (setAll wr w.heap.size 0 [.slice none 0 0,.slice none 0 0]).drew:=Below.drew (Yq (Nat.le_refl _) [.slice none 0 0,.slice none 0 0] 0 _ BX.out)
    refine Qe (cs:=[.slice none 0 0,.slice none 0 0]) rfl rfl rfl rfl FD Tryz.underlying26 ⟨_,rfl⟩ (by kernel_rfl) ?_
    refine ⟨_,_,_,_,_,_,x0,rfl,?_,BD⟩
    have hr:R=.error x0:=LX.out
    rw [hr]
    exact ⟨rfl,HY.out,rfl⟩
  · obtain ⟨A',c',p',dd',h0,hpl,hlen⟩:=RX.out.place
    obtain ⟨c0,c1,c2,c3,cz⟩:=Z8 h0
    have LY:=Hd (show _∧_ from ⟨LX.out.2.2.1,LX.out.2.2.2.1⟩)
    clear h0 cz
    by_cases hrun:fb=true∨ts ≠ []
    · cases gk with
      | zero=>have:=LY.out.2;omega
      | succ g =>
        have HD:=Hd (fun wy (hy:RP n0 wy w1.heap.size 0 (.ok ts)) (hk:RDK w1.heap.size (w1.heap.size+1) (w1.heap.size+1+1) wy V1 V2 l1 l2 xs1 xs2 P1 X1 P2 X2)=>Ynw ts w1.heap.size (w1.heap.size+1) (w1.heap.size+1+1) wy V1 V2 l1 l2 xs1 xs2 P1 X1 P2 X2 LY.out.1 hlen hy hk (by have:=HL.out;omega) (by have:=HL.out;omega))
        have HN:=Hd (fun k1 k2 hk=>Yd6 (k1:=k1) (k2:=k2) LX.out hrun hk)
        cases fb with
        | true =>
          clear hrun hpl hlen
          go_wp2_with fail
          refine (HD.out _ RX.out KX.out).mono ?_
          rintro e w5 ⟨rfl,st,rp,U1,U2,k1,k2,ys1,ys2,Q1',Z1,Q2',Z2,rdk,hkl,hk⟩
          obtain ⟨D',hL'⟩:=HN.out k1 k2 hk
          have N5:=Hd (show _∧_∧_∧_ from ⟨rp,rdk,SX.out.trans st,hL'⟩)
          clear st rp rdk hL' hk c0 c1 c2 c3 q0 q1 qf0 qf1
          go_wp2_with fail
          go_roundg g
          case measure=>omega
          case rel=>exact ⟨_,D',false,U1,U2,k1,k2,ys1,ys2,Q1',Z1,Q2',Z2,rfl,by omega,Zu N5.out⟩
        | false =>
          have ht:ts ≠ []:=by rcases hrun with h|h;cases h;exact h
          have t2:decide (p' < n0)=true:=by
           have:0 < ts.length:=List.length_pos_iff.2 ht
           simp;omega
          clear hrun hpl hlen ht
          go_wp2_with fail
          refine (HD.out _ RX.out KX.out).mono ?_
          rintro e w5 ⟨rfl,st,rp,U1,U2,k1,k2,ys1,ys2,Q1',Z1,Q2',Z2,rdk,hkl,hk⟩
          obtain ⟨D',hL'⟩:=HN.out k1 k2 hk
          have N5:=Hd (show _∧_∧_∧_ from ⟨rp,rdk,SX.out.trans st,hL'⟩)
          clear st rp rdk hL' hk c0 c1 c2 c3 q0 q1 qf0 qf1
          go_wp2_with fail
          go_roundg g
          case measure=>omega
          case rel=>exact ⟨_,D',false,U1,U2,k1,k2,ys1,ys2,Q1',Z1,Q2',Z2,rfl,by omega,Zu N5.out⟩
    · have hf:fb=false:=by cases fb with|true=>exact absurd (.inl rfl) hrun|false=>rfl
      have ht:ts=[]:=by
        rcases ts with _|⟨t,ts⟩
        · rfl
        · exact absurd (.inr (by simp)) hrun
      subst hf ht
      have t2:decide (p' < n0)=false:=by simp at hpl ⊢;omega
      have hR:R=.ok D:=by have h:=LX.out.2.2.2.2.2;rw [if_neg (by simp)] at h;exact h
      have hlD:=LX.out.2.2.2.2.1
      obtain rfl:=LX.out.1
      obtain rfl:=LX.out.2.1
      obtain ⟨A1,c1,rfl⟩:=Yw KX.out.r1.own
      obtain ⟨A2,c2,rfl⟩:=Yw KX.out.r2.own
      obtain ⟨y0,y1,yz⟩:=ptc KX.out.loc
      have yf0:=yz 0
      have yf1:=yz 1
      have HRD:=Hd (And.intro hR hlD)
      clear hrun hpl hlen yz hR hlD
      go_wp2_with fail
      have FT:=(KX.out.tree (by have:=HRD.out.2;omega) (by have:=HRD.out.2;omega)).fin (w:=w) (by omega) [.slice A1 (Z5 Ya D.ops).len c1,.slice A2 (Z5 Ur D.frags).len c2]
      refine Qe (cs:=[.slice A1 (Z5 Ya D.ops).len c1,.slice A2 (Z5 Ur D.frags).len c2]) rfl rfl rfl rfl (Y9 (ys:=[.slice none 0 0,.slice none 0 0]) (xs:=[.slice A1 (Z5 Ya D.ops).len c1,.slice A2 (Z5 Ur D.frags).len c2]) rfl YX.out) Tryz.underlying26 ⟨_,rfl⟩ (by kernel_rfl) ?_
      refine ⟨_,_,_,_,_,_,0,rfl,?_,Yq (Nat.le_refl _) [.slice A1 (Z5 Ya D.ops).len c1,.slice A2 (Z5 Ur D.frags).len c2] 0 _ BX.out⟩
      rw [HRD.out.1]
      exact ⟨rfl,FT⟩
end Go.Proofs.YtpkmbhnikilihaaGreatDoor
