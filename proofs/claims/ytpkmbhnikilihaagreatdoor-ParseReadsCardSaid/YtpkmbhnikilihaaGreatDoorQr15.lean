/- The landed document: its walk. -/
import Derived.Test.YtpkmbhnikilihaaGreatDoorQr14
set_option maxRecDepth 100000
set_option maxHeartbeats 16000000
namespace Go.Proofs.YtpkmbhnikilihaaGreatDoor
open Go.RowKit
def Ll (ts:List Tok):Except Int (Vs × List Tok):=match Mc ts with | .ok D=>.ok (D,[]) | .error x=>.error x
theorem Qc {ts:List Tok} {D:Vs} (h:Mc ts=.ok D):Ll ts=.ok (D,[]):=by unfold Ll;rw [h]
theorem I7 {ts:List Tok} {x:Int} (h:Mc ts=.error x):Ll ts=.error x:=by unfold Ll;rw [h]
theorem Yaw:(Tryz.prog.info? 68).map (fun i=>(i.zero,i.size,i.bytes))=some (some (.agg #[.int .i64 0,.string ⟨#[]⟩,.slice none 0 0,.slice none 0 0,.slice none 0 0]),5,96):=by kernel_rfl
theorem Yi8:(Tryz.prog.info? 87).map (fun i=>(i.zero,i.size,i.bytes))=some (some (.agg #[.string ⟨#[]⟩,.string ⟨#[]⟩,.slice none 0 0,.slice none 0 0]),4,80):=by kernel_rfl
theorem Zqn (ts : List Tok) (r:Nat) (w:World) (hG:Xb ts) (hR:Rd w r ts 0) (hK:KRd r w):Calls Tryz.prog 42 #[.pointer (some ⟨r,0,none⟩)] w (L8 r 0 w (Gt J1) (Ll ts)):=by
 refine cQE (fun Q hQ=>?_)
 obtain ⟨i0,hi,hz0,hz1,hz2⟩:=info_parts Yaw
 obtain ⟨i1,gi,gz0,gz1,gz2⟩:=info_parts Yi8
 have HQ:=Hd hQ
 have hr:=hR.lt
 have hlen:ts.length≤200000:=by obtain ⟨_,_,_,_,h,_⟩:=hR;exact h
 have K0:=Hd (DK.start w r hr)
 have B0:=Hd (Xf w (.cells #[.slice none 0 0,.slice none 0 0] 26) (.cells #[.slice none 0 0,.slice none 0 0] 26))
 have R0:=Hd (hR.below B0.out)
 have D0:=Hd (hK.moved (Z0.of_below B0.out))
 have G0:=Hd hG
 clear hQ hR hK hG
 go_enter Tryz.func42,Tryz.ntmps42
 go_wp2_with fail
 go_loopg [] (ts.length+1) (fun g wx=>∃ (D:Vs) (tq:List Tok) (V1 V2:Value) (xs1 xs2:List Value) (P1 X1 P2 X2:Nat→Prop),tq.length+1≤g∧D.ops.length+D.frags.length+tq.length≤200000∧Aside (DK w r wx V1 V2 D xs1 xs2 P1 X1 P2 X2∧Rd wx r tq 0∧KRd r wx∧Xb tq∧Mf g D tq=Mc ts))
 case atStart=>exact ⟨⟨[],[]⟩,ts,_,_,_,_,_,_,_,_,Nat.le_refl _,by simpa using hlen,Zu ⟨K0.out,R0.out,D0.out,G0.out,rfl⟩⟩
 case round =>
  obtain ⟨D,tq,V1,V2,xs1,xs2,P1,X1,P2,X2,hq,hal,HA⟩:=hrel
  have KX:=Hd HA.out.1
  have RX:=Hd HA.out.2.1
  have DX:=Hd HA.out.2.2.1
  have G2:=Hd HA.out.2.2.2.1
  have EX:=Hd HA.out.2.2.2.2
  clear HA K0 R0 D0 B0 G0
  obtain ⟨A1,c1,rfl⟩:=Yw KX.out.r1.own
  obtain ⟨A2,c2,rfl⟩:=Yw KX.out.r2.own
  cases gk with
  | zero=>omega
  | succ g =>
    go_wp2_with fail
    refine (U6 r tq 0 1 omB _ RX.out).mono ?_
    intro e w1 h
    cases hb1:atB 1 omB tq with
    | true =>
      rw [hb1] at h
      obtain ⟨rfl,rfl⟩:=h
      have K2:=KX
      have R2:=RX
      have D2:=DX
      have HEE:Hid (∀ x,X8 0 tq=.error x→Mc ts=.error x):=Hd (fun x hv=>by rw [← EX.out,Mf,Zzg];simp only [hb1,hv,if_true])
      have HEO:Hid (∀ a tq2,X8 0 tq=.ok (a,tq2)→(if tq2.isEmpty=true then .ok (⟨D.ops++[⟨0,eB,[],[],a⟩],D.frags⟩:Vs) else Mf g (⟨D.ops++[⟨0,eB,[],[],a⟩],D.frags⟩:Vs) tq2)=Mc ts):=Hd (fun a tq2 hv=>by rw [← EX.out,Mf,Zzg];simp only [hb1,hv,if_true])
      have KD:=Hd (K2.out.next (Z0.of_below (Below.drew (Below.refl _ _))))
      have RD:=Hd (R2.out.below (Below.drew (Below.refl _ _)))
      have DD:=Hd (D2.out.moved (Z0.of_below (r:=r) (Below.drew (Below.refl _ _))))
      obtain ⟨y0,y1,yz⟩:=ptc KD.out.loc
      have yf0:=yz 0
      have yf1:=yz 1
      clear yz
      go_wp2_with fail
      cases hv:X8 0 tq with
      | error x =>
        have HE:=Hd (HEE.out _ hv)
        refine wp_region_held_drew (S:=fun _=>True) (by kernel_rfl) trivial (fun _=>?_)
        refine tkE (i:=0) (v:=?_) rfl (Or.inl ⟨by rfl,?_⟩) ?_
        rotate_left
        · (intro w _;go_simp;try with_reducible rfl)
        simp only [Act.put,List.setIfInBounds_toArray]
        refine tkE (i:=2) (v:=?_) rfl (Or.inl ⟨by rfl,?_⟩) ?_
        rotate_left
        · (intro w _;go_simp;try with_reducible rfl)
        simp only [Act.put]
        refine rdE (rs:=[1,3]) ?_
        refine AllReadyH.cons rfl (fun K hK=>?_) ?_
        · skip
          go_simp
          refine hK.out _ _ trivial (fun _=>?_)
          clear hK K
          try simp only [Act.put,stT,stZ,stS]
          refine rd1E 3 rfl (fun K hK=>?_)
          go_simp
          go_at_call 96
          refine (Gd 0 tq r _ G2.out (Nat.zero_le _) RD.out DD.out).mono ?_
          intro e w3 h
          rw [hv] at h
          obtain ⟨rfl,m3⟩:=Yr h
          exact ⟨rfl,HQ.out _ _ (per (I7 HE.out) (KD.out.mv.trans m3))⟩
        refine AllReadyH.cons rfl (fun K hK=>?_) AllReadyH.nil
        go_simp
        go_at_call 96
        refine (Gd 0 tq r _ G2.out (Nat.zero_le _) RD.out DD.out).mono ?_
        intro e w3 h
        rw [hv] at h
        obtain ⟨rfl,m3⟩:=Yr h
        exact ⟨rfl,HQ.out _ _ (per (I7 HE.out) (KD.out.mv.trans m3))⟩
      | ok p =>
        obtain ⟨a,tq2⟩:=p
        have hlt2:=(Iy hv).2
        have G3:=Hd (G2.out.sub (Iy hv).1)
        have HE:=Hd (HEO.out _ _ hv)
        have HV:=Hd hv
        clear hv
        refine wp_region_held_drew (S:=fun _=>True) (by kernel_rfl) trivial (fun _=>?_)
        refine tkE (i:=0) (v:=?_) rfl (Or.inl ⟨by rfl,?_⟩) ?_
        rotate_left
        · (intro w _;go_simp;try with_reducible rfl)
        simp only [Act.put,List.setIfInBounds_toArray]
        refine tkE (i:=2) (v:=?_) rfl (Or.inl ⟨by rfl,?_⟩) ?_
        rotate_left
        · (intro w _;go_simp;try with_reducible rfl)
        simp only [Act.put]
        refine rd2E 1 3 rfl rfl (fun K hK=>?_) (fun K hK=>?_)
        focus
          go_simp
          refine hK.out _ _ trivial (fun _=>?_)
          clear hK K
          try simp only [Act.put,stT,stZ,stS]
          refine rd1E 3 rfl (fun K hK=>?_)
          go_simp
          go_at_call 96
          refine (Gd 0 tq r _ G2.out (Nat.zero_le _) RD.out DD.out).mono ?_
          intro e w3 h
          rw [HV.out] at h
          obtain ⟨⟨v,rfl,hl⟩,r3,m3⟩:=Jh h
          obtain ⟨A9,k9,rfl,hts⟩:=Yx hl
          have TS3:=Hd ((TS.int (TS.str (Nat.zero_le _) (TS.row (TP.none _ _) (TS.row (TP.none _ _) (TS.row hts (TS.nil _ _))))):TS w3 _ (Ya (⟨0,eB,[],[],a⟩:OpT)) [.int .i64 0,.string ⟨#[]⟩,.slice none 0 0,.slice none 0 0,.slice A9 (Z7 a).len k9]))
          have R3:=Hd r3
          have M3:=Hd m3
          have K3:=Hd (KD.out.next m3)
          clear h hl r3 m3 y0 y1 yf0 yf1 hts
          obtain ⟨j0,j1,jz⟩:=ptc K3.out.loc
          have jf0:=jz 0
          have jf1:=jz 1
          clear jz
          have jA:=fun o=>(World.cell?_of_block (a:=⟨w.heap.size+1,0,none⟩) (Below.heap_alloc w3 o _ (Nat.lt_of_succ_le K3.out.lt))).trans j0
          skip
          refine hK.out _ _ trivial (fun _=>?_)
          clear hK K
          try simp only [Act.put,stT,stZ,stS]
          refine tkE (i:=4) (v:=?_) rfl (Or.inl ⟨by rfl,?_⟩) ?_
          rotate_left
          · (intro w _;go_simp;try with_reducible rfl)
          simp only [Act.put,List.setIfInBounds_toArray]
          refine rd1E 5 rfl (fun K hK=>?_)
          go_simp
          refine hK.out _ _ trivial (fun _=>?_)
          clear hK K
          try simp only [Act.put,stT,stZ,stS]
          refine rd1E 6 rfl (fun K hK=>?_)
          skip
        rotate_left
        focus
          go_simp
          go_at_call 96
          refine (Gd 0 tq r _ G2.out (Nat.zero_le _) RD.out DD.out).mono ?_
          intro e w3 h
          rw [HV.out] at h
          obtain ⟨⟨v,rfl,hl⟩,r3,m3⟩:=Jh h
          obtain ⟨A9,k9,rfl,hts⟩:=Yx hl
          have TS3:=Hd ((TS.int (TS.str (Nat.zero_le _) (TS.row (TP.none _ _) (TS.row (TP.none _ _) (TS.row hts (TS.nil _ _))))):TS w3 _ (Ya (⟨0,eB,[],[],a⟩:OpT)) [.int .i64 0,.string ⟨#[]⟩,.slice none 0 0,.slice none 0 0,.slice A9 (Z7 a).len k9]))
          have R3:=Hd r3
          have M3:=Hd m3
          have K3:=Hd (KD.out.next m3)
          clear h hl r3 m3 y0 y1 yf0 yf1 hts
          obtain ⟨j0,j1,jz⟩:=ptc K3.out.loc
          have jf0:=jz 0
          have jf1:=jz 1
          clear jz
          have jA:=fun o=>(World.cell?_of_block (a:=⟨w.heap.size+1,0,none⟩) (Below.heap_alloc w3 o _ (Nat.lt_of_succ_le K3.out.lt))).trans j0
          skip
          refine hK.out _ _ trivial (fun _=>?_)
          clear hK K
          try simp only [Act.put,stT,stZ,stS]
          refine tkE (i:=4) (v:=?_) rfl (Or.inl ⟨by rfl,?_⟩) ?_
          rotate_left
          · (intro w _;go_simp;try with_reducible rfl)
          simp only [Act.put,List.setIfInBounds_toArray]
          refine rd2E 1 5 rfl rfl (fun K hK=>?_) (fun K hK=>?_)
          focus
            go_simp
            refine hK.out _ _ trivial (fun _=>?_)
            clear hK K
            try simp only [Act.put,stT,stZ,stS]
            refine rd1E 5 rfl (fun K hK=>?_)
            go_simp
            refine hK.out _ _ trivial (fun _=>?_)
            clear hK K
            try simp only [Act.put,stT,stZ,stS]
            refine rd1E 6 rfl (fun K hK=>?_)
            skip
          rotate_left
          focus
            go_simp
            refine hK.out _ _ trivial (fun _=>?_)
            clear hK K
            try simp only [Act.put,stT,stZ,stS]
            refine rd1E 1 rfl (fun K hK=>?_)
            go_simp
            refine hK.out _ _ trivial (fun _=>?_)
            clear hK K
            try simp only [Act.put,stT,stZ,stS]
            refine rd1E 6 rfl (fun K hK=>?_)
            skip
        all_goals
          refine step_append_lies _ (by rfl) _ _ 23 (by rfl) (w.heap.size+2) 68 i0 (.agg #[.int .i64 0,.string ⟨#[]⟩,.slice none 0 0,.slice none 0 0,.slice none 0 0]) 5 96 Tryz.underlying23 hi hz0 hz1 hz2 (by rfl) (by decide) _ (Z5 Ya D.ops).len xs1 (by rfl) (Xn K3.out.r1.own ((Below.refl _ _).alloc (Nat.le_refl _) _)) _ 1 1 [.int .i64 0,.string ⟨#[]⟩,.slice none 0 0,.slice none 0 0,.slice A9 (Z7 a).len k9] (by rfl) (by rfl) (fun j u hj=>World.news_of_block (heap_alloc_new _ _) j u hj) (by intro y hy;simp at hy;rcases hy with rfl|rfl|rfl|rfl|rfl<;>rfl) (by decide) (by unfold maxLen;rw [Zt];omega) (by rw [Zt];omega) (by have h1:=K3.out.lt;simp;omega) _ (by rfl) ?_
          intro gg cap2 w4 hown4 hgrow hat hlt4
          have HG4:=Hd hgrow
          have HO4:=Hd hown4
          have HT4:=Hd hat
          have HL4:=Hd (K3.out.grown hgrow K3.out.own1)
          clear hgrow hown4 hat j0 j1 jf0 jf1 jA
          obtain ⟨x0,x1,xz⟩:=ptc HL4.out.2.1
          have xf0:=xz 0
          have xf1:=xz 1
          clear xz
          refine hK.out _ _ trivial (fun _=>?_)
          clear hK K
          simp only [Act.put,List.setIfInBounds_toArray]
          refine rd1E 7 rfl (fun K hK=>?_)
          go_simp
          refine hK.out _ _ trivial (fun _=>?_)
          clear hK K
          try simp only [Act.put,stT,stZ,stS]
          refine rd1E 8 rfl (fun K hK=>?_)
          go_simp
          refine hK.out _ _ trivial (fun _=>?_)
          clear hK K
          try simp only [Act.put,stT,stZ,stS]
          refine wpAnyH_done (by kernel_rfl) ?_ _
          obtain ⟨P5,K5⟩:=DK.app1 (x:=(⟨0,eB,[],[],a⟩:OpT)) KD.out M3.out TS3.out HO4.out HG4.out HT4.out
          have G5:=Jm HG4.out (r:=r) (fun b hb=>by have:=K3.out.own1 b hb;have:=K3.out.hr;omega)
          have hr9:=K3.out.hr
          have R5:=(G5.1 _ _ (R3.out.below (blw _ _))).set (b:=w.heap.size+1) (i:=0) (v:=(.slice (some ⟨gg,0,none⟩) ((Z5 Ya D.ops).len+1) cap2)) (by omega)
          have D5:=(G5.2 ((DD.out.moved M3.out).moved (Z0.of_below (blw _ _)))).set (b:=w.heap.size+1) (i:=0) (v:=(.slice (some ⟨gg,0,none⟩) ((Z5 Ya D.ops).len+1) cap2)) (by omega)
          have K6:=Hd K5
          have R6:=Hd R5
          have D6:=Hd D5
          clear K5 R5 D5 G5 x0 x1 xf0 xf1
          generalize w4.setCell ⟨w.heap.size+1,0,none⟩ (.slice (some ⟨gg,0,none⟩) ((Z5 Ya D.ops).len+1) cap2)=w5 at *
          go_wp2_with fail
          refine (Jb r tq2 0 _ R6.out).mono ?_
          rintro e w6 ⟨rfl,rfl⟩
          have hE:=HE.out
          cases hem:tq2.isEmpty with
          | true =>
            rw [hem,if_pos rfl] at hE
            have HE2:=Hd hE
            have HM:=Hd (List.isEmpty_iff.1 hem)
            clear hE hem
            obtain ⟨x0,x1,xz⟩:=ptc K6.out.loc
            have xf0:=xz 0
            have xf1:=xz 1
            clear xz
            obtain ⟨u0,u1,uz⟩:=ptc K6.out.res
            have uf0:=uz 0
            have uf1:=uz 1
            clear uz
            go_wp2_with fail
            have f1:=Y9 (b:=w.heap.size) (t:=26) (ys:=[.slice none 0 0,.slice none 0 0]) (xs:=[(.slice (some ⟨gg,0,none⟩) ((Z5 Ya D.ops).len+1) cap2),.slice A2 (Z5 Ur D.frags).len c2]) rfl K6.out.res
            have f2:=R6.out.setAll (b:=w.heap.size) K6.out.hr [(.slice (some ⟨gg,0,none⟩) ((Z5 Ya D.ops).len+1) cap2),.slice A2 (Z5 Ur D.frags).len c2] 0
            have f3:=Z0.setAll (r:=r) (b:=w.heap.size) (Nat.le_refl _) [(.slice (some ⟨gg,0,none⟩) ((Z5 Ya D.ops).len+1) cap2),.slice A2 (Z5 Ur D.frags).len c2] 0 _ K6.out.mv
            have FT:=(K6.out.tree (by simp only [List.length_append,List.length_singleton];omega) (by dsimp only;omega)).fin (w:=w) (Nat.le_succ _) [(.slice (some ⟨gg,0,none⟩) ((Z5 Ya D.ops).len+1) cap2),.slice A2 (Z5 Ur D.frags).len c2]
            rw [HM.out] at f2
            have FP:=HQ.out _ _ (X6 (a:=(⟨D.ops++[⟨0,eB,[],[],a⟩],D.frags⟩:Vs)) (Qc HE2.out.symm) ⟨[(.slice (some ⟨gg,0,none⟩) ((Z5 Ya D.ops).len+1) cap2),.slice A2 (Z5 Ur D.frags).len c2],rfl,FT⟩ f2 f3)
            exact Y8 rfl rfl rfl f1 Tryz.underlying26 ⟨_,rfl⟩ (by kernel_rfl) FP
          | false =>
            rw [hem] at hE
            simp only [Bool.false_eq_true,if_false] at hE
            have HE2:=Hd hE
            clear hE hem
            go_wp2_with fail
            go_roundg g
            case measure=>omega
            case rel=>exact ⟨(⟨D.ops++[⟨0,eB,[],[],a⟩],D.frags⟩:Vs),tq2,_,_,_,_,_,_,_,_,by omega,by simp only [List.length_append,List.length_singleton];omega,Zu ⟨K6.out,R6.out,D6.out,G3.out,HE2.out⟩⟩
    | false =>
      rw [hb1] at h
      obtain ⟨rfl,rfl⟩:=h
      go_wp2_with fail
      refine Or.elim (Classical.em (atB 2 J2 tq=true∨atB 2 Nz tq=true)) (fun hop=>?_) (fun hnop=>?_)
      focus
        refine Or.elim (Bool.eq_false_or_eq_true (atB 2 J2 tq)) (fun hb2=>?_) (fun hb2=>?_)
        focus
          refine (Zv r tq 0 2 J2 _ RX.out).mono ?_
          intro e wk0 h
          clear hop
          rw [hb2] at h
          obtain ⟨rfl,rr,mm⟩:=h
          rw [Jl hb2] at rr
          have K2:=Hd (KX.out.next mm)
          have R2:=Hd rr
          have D2:=Hd (DX.out.moved mm)
          have hlt1:=(Zf hb2).2
          have G2:=Hd (G2.out.sub (Zf hb2).1)
          clear rr mm
          obtain ⟨kk,hkk⟩:∃ k:Int,k=0:=⟨_,rfl⟩
          have HC:=Hd (fun wx (hr:Rd wx r tq.tail 0) (hk:KRd r wx)=>(show Calls Tryz.prog 98 #[.pointer (some ⟨r,0,none⟩),.int .i64 0] wx (L8 r 0 wx (Gt Ya) (opR kk 0 tq.tail)) from by rw [hkk];exact Yhu 0 0 tq.tail r wx G2.out (Nat.zero_le _) hr hk))
          have HEE:Hid (∀ x,opR kk 0 tq.tail=.error x→Mc ts=.error x):=Hd (fun x hv=>by rw [hkk] at hv;rw [← EX.out,Mf,Zzg];simp only [hb1,hb2,hv,if_true,if_false,Bool.false_eq_true])
          have HEO:Hid (∀ a tq2,opR kk 0 tq.tail=.ok (a,tq2)→(if tq2.isEmpty=true then .ok (⟨D.ops++[a],D.frags⟩:Vs) else Mf g (⟨D.ops++[a],D.frags⟩:Vs) tq2)=Mc ts):=Hd (fun a tq2 hv=>by rw [hkk] at hv;rw [← EX.out,Mf,Zzg];simp only [hb1,hb2,hv,if_true,if_false,Bool.false_eq_true])
          have HKK:=Hd hkk
          clear hb1 hb2 KX RX DX hkk
        rotate_left
        focus
          have hb3:atB 2 Nz tq=true:=by rcases hop with h|h;rw [hb2] at h;cases h;exact h
          refine (Zv r tq 0 2 J2 _ RX.out).mono ?_
          intro e wk0 h
          rw [hb2] at h
          obtain ⟨rfl,rr,mm⟩:=h
          rw [Vg hb2] at rr
          have K0n:=Hd (KX.out.next mm)
          have R0n:=Hd rr
          have D0n:=Hd (DX.out.moved mm)
          clear rr mm
          go_wp2_with fail
          refine (Zv r tq 0 2 Nz _ R0n.out).mono ?_
          intro e wk1 h
          clear hop
          rw [hb3] at h
          obtain ⟨rfl,rr,mm⟩:=h
          rw [Jl hb3] at rr
          have K2:=Hd (K0n.out.next mm)
          have R2:=Hd rr
          have D2:=Hd (D0n.out.moved mm)
          have hlt1:=(Zf hb3).2
          have G2:=Hd (G2.out.sub (Zf hb3).1)
          clear rr mm
          obtain ⟨kk,hkk⟩:∃ k:Int,k=1:=⟨_,rfl⟩
          have HC:=Hd (fun wx (hr:Rd wx r tq.tail 0) (hk:KRd r wx)=>(show Calls Tryz.prog 98 #[.pointer (some ⟨r,0,none⟩),.int .i64 1] wx (L8 r 0 wx (Gt Ya) (opR kk 0 tq.tail)) from by rw [hkk];exact Yhu 1 0 tq.tail r wx G2.out (Nat.zero_le _) hr hk))
          have HEE:Hid (∀ x,opR kk 0 tq.tail=.error x→Mc ts=.error x):=Hd (fun x hv=>by rw [hkk] at hv;rw [← EX.out,Mf,Zzg];simp only [hb1,hb2,hb3,hv,if_true,if_false,Bool.false_eq_true])
          have HEO:Hid (∀ a tq2,opR kk 0 tq.tail=.ok (a,tq2)→(if tq2.isEmpty=true then .ok (⟨D.ops++[a],D.frags⟩:Vs) else Mf g (⟨D.ops++[a],D.frags⟩:Vs) tq2)=Mc ts):=Hd (fun a tq2 hv=>by rw [hkk] at hv;rw [← EX.out,Mf,Zzg];simp only [hb1,hb2,hb3,hv,if_true,if_false,Bool.false_eq_true])
          have HKK:=Hd hkk
          clear hb1 hb2 hb3 KX RX DX K0n R0n D0n hkk
        all_goals
          have KD:=Hd (K2.out.next (Z0.of_below (Below.drew (Below.refl _ _))))
          have RD:=Hd (R2.out.below (Below.drew (Below.refl _ _)))
          have DD:=Hd (D2.out.moved (Z0.of_below (r:=r) (Below.drew (Below.refl _ _))))
          obtain ⟨y0,y1,yz⟩:=ptc KD.out.loc
          have yf0:=yz 0
          have yf1:=yz 1
          clear yz
          go_wp2_with fail
          cases hv:opR kk 0 tq.tail with
          | error x =>
            have HE:=Hd (HEE.out _ hv)
            refine wp_region_held_drew (S:=fun _=>True) (by kernel_rfl) trivial (fun _=>?_)
            refine tkE (i:=0) (v:=?_) rfl (Or.inl ⟨by rfl,?_⟩) ?_
            rotate_left
            · (intro w _;go_simp;try with_reducible rfl)
            simp only [Act.put,List.setIfInBounds_toArray]
            refine tkE (i:=2) (v:=?_) rfl (Or.inl ⟨by rfl,?_⟩) ?_
            rotate_left
            · (intro w _;go_simp;try with_reducible rfl)
            simp only [Act.put]
            refine rdE (rs:=[1,3]) ?_
            refine AllReadyH.cons rfl (fun K hK=>?_) ?_
            · skip
              go_simp
              refine hK.out _ _ trivial (fun _=>?_)
              clear hK K
              try simp only [Act.put,stT,stZ,stS]
              refine rd1E 3 rfl (fun K hK=>?_)
              go_simp
              go_at_call 98
              refine (HC.out _ RD.out DD.out).mono ?_
              intro e w3 h
              rw [hv] at h
              obtain ⟨rfl,m3⟩:=Yr h
              exact ⟨rfl,HQ.out _ _ (per (I7 HE.out) (KD.out.mv.trans m3))⟩
            refine AllReadyH.cons rfl (fun K hK=>?_) AllReadyH.nil
            go_simp
            go_at_call 98
            refine (HC.out _ RD.out DD.out).mono ?_
            intro e w3 h
            rw [hv] at h
            obtain ⟨rfl,m3⟩:=Yr h
            exact ⟨rfl,HQ.out _ _ (per (I7 HE.out) (KD.out.mv.trans m3))⟩
          | ok p =>
            obtain ⟨a,tq2⟩:=p
            have hlt2:=(Zjg hv).2
            have G3:=Hd (G2.out.sub (Zjg hv).1)
            have HE:=Hd (HEO.out _ _ hv)
            have HV:=Hd hv
            clear hv
            refine wp_region_held_drew (S:=fun _=>True) (by kernel_rfl) trivial (fun _=>?_)
            refine tkE (i:=0) (v:=?_) rfl (Or.inl ⟨by rfl,?_⟩) ?_
            rotate_left
            · (intro w _;go_simp;try with_reducible rfl)
            simp only [Act.put,List.setIfInBounds_toArray]
            refine tkE (i:=2) (v:=?_) rfl (Or.inl ⟨by rfl,?_⟩) ?_
            rotate_left
            · (intro w _;go_simp;try with_reducible rfl)
            simp only [Act.put]
            refine rd2E 1 3 rfl rfl (fun K hK=>?_) (fun K hK=>?_)
            focus
              go_simp
              refine hK.out _ _ trivial (fun _=>?_)
              clear hK K
              try simp only [Act.put,stT,stZ,stS]
              refine rd1E 3 rfl (fun K hK=>?_)
              go_simp
              go_at_call 98
              refine (HC.out _ RD.out DD.out).mono ?_
              intro e w3 h
              rw [HV.out] at h
              obtain ⟨⟨v,rfl,hl⟩,r3,m3⟩:=Jh h
              obtain ⟨z0,z1,A9,n9,k9,B9,m9,l9,C9,o9,q9,rfl,hts⟩:=Yc0 hl
              have TS3:=Hd (hts)
              have R3:=Hd r3
              have M3:=Hd m3
              have K3:=Hd (KD.out.next m3)
              clear h hl r3 m3 y0 y1 yf0 yf1 hts
              obtain ⟨j0,j1,jz⟩:=ptc K3.out.loc
              have jf0:=jz 0
              have jf1:=jz 1
              clear jz
              have jA:=fun o=>(World.cell?_of_block (a:=⟨w.heap.size+1,0,none⟩) (Below.heap_alloc w3 o _ (Nat.lt_of_succ_le K3.out.lt))).trans j0
              skip
              refine hK.out _ _ trivial (fun _=>?_)
              clear hK K
              try simp only [Act.put,stT,stZ,stS]
              refine rd1E 4 rfl (fun K hK=>?_)
              go_simp
              refine hK.out _ _ trivial (fun _=>?_)
              clear hK K
              try simp only [Act.put,stT,stZ,stS]
              refine rd1E 5 rfl (fun K hK=>?_)
              skip
            rotate_left
            focus
              go_simp
              go_at_call 98
              refine (HC.out _ RD.out DD.out).mono ?_
              intro e w3 h
              rw [HV.out] at h
              obtain ⟨⟨v,rfl,hl⟩,r3,m3⟩:=Jh h
              obtain ⟨z0,z1,A9,n9,k9,B9,m9,l9,C9,o9,q9,rfl,hts⟩:=Yc0 hl
              have TS3:=Hd (hts)
              have R3:=Hd r3
              have M3:=Hd m3
              have K3:=Hd (KD.out.next m3)
              clear h hl r3 m3 y0 y1 yf0 yf1 hts
              obtain ⟨j0,j1,jz⟩:=ptc K3.out.loc
              have jf0:=jz 0
              have jf1:=jz 1
              clear jz
              have jA:=fun o=>(World.cell?_of_block (a:=⟨w.heap.size+1,0,none⟩) (Below.heap_alloc w3 o _ (Nat.lt_of_succ_le K3.out.lt))).trans j0
              skip
              refine hK.out _ _ trivial (fun _=>?_)
              clear hK K
              try simp only [Act.put,stT,stZ,stS]
              refine rd2E 1 4 rfl rfl (fun K hK=>?_) (fun K hK=>?_)
              focus
                go_simp
                refine hK.out _ _ trivial (fun _=>?_)
                clear hK K
                try simp only [Act.put,stT,stZ,stS]
                refine rd1E 4 rfl (fun K hK=>?_)
                go_simp
                refine hK.out _ _ trivial (fun _=>?_)
                clear hK K
                try simp only [Act.put,stT,stZ,stS]
                refine rd1E 5 rfl (fun K hK=>?_)
                skip
              rotate_left
              focus
                go_simp
                refine hK.out _ _ trivial (fun _=>?_)
                clear hK K
                try simp only [Act.put,stT,stZ,stS]
                refine rd1E 1 rfl (fun K hK=>?_)
                go_simp
                refine hK.out _ _ trivial (fun _=>?_)
                clear hK K
                try simp only [Act.put,stT,stZ,stS]
                refine rd1E 5 rfl (fun K hK=>?_)
                skip
            all_goals
              refine step_append_lies _ (by rfl) _ _ 23 (by rfl) (w.heap.size+2) 68 i0 (.agg #[.int .i64 0,.string ⟨#[]⟩,.slice none 0 0,.slice none 0 0,.slice none 0 0]) 5 96 Tryz.underlying23 hi hz0 hz1 hz2 (by rfl) (by decide) _ (Z5 Ya D.ops).len xs1 (by rfl) (Xn K3.out.r1.own ((Below.refl _ _).alloc (Nat.le_refl _) _)) _ 1 1 [.int .i64 z0,.string z1,.slice A9 n9 k9,.slice B9 m9 l9,.slice C9 o9 q9] (by rfl) (by rfl) (fun j u hj=>World.news_of_block (heap_alloc_new _ _) j u hj) (by intro y hy;simp at hy;rcases hy with rfl|rfl|rfl|rfl|rfl<;>rfl) (by decide) (by unfold maxLen;rw [Zt];omega) (by rw [Zt];omega) (by have h1:=K3.out.lt;simp;omega) _ (by rfl) ?_
              intro gg cap2 w4 hown4 hgrow hat hlt4
              have HG4:=Hd hgrow
              have HO4:=Hd hown4
              have HT4:=Hd hat
              have HL4:=Hd (K3.out.grown hgrow K3.out.own1)
              clear hgrow hown4 hat j0 j1 jf0 jf1 jA
              obtain ⟨x0,x1,xz⟩:=ptc HL4.out.2.1
              have xf0:=xz 0
              have xf1:=xz 1
              clear xz
              refine hK.out _ _ trivial (fun _=>?_)
              clear hK K
              simp only [Act.put,List.setIfInBounds_toArray]
              refine rd1E 6 rfl (fun K hK=>?_)
              go_simp
              refine hK.out _ _ trivial (fun _=>?_)
              clear hK K
              try simp only [Act.put,stT,stZ,stS]
              refine rd1E 7 rfl (fun K hK=>?_)
              go_simp
              refine hK.out _ _ trivial (fun _=>?_)
              clear hK K
              try simp only [Act.put,stT,stZ,stS]
              refine wpAnyH_done (by kernel_rfl) ?_ _
              obtain ⟨P5,K5⟩:=DK.app1 (x:=a) KD.out M3.out TS3.out HO4.out HG4.out HT4.out
              have G5:=Jm HG4.out (r:=r) (fun b hb=>by have:=K3.out.own1 b hb;have:=K3.out.hr;omega)
              have hr9:=K3.out.hr
              have R5:=(G5.1 _ _ (R3.out.below (blw _ _))).set (b:=w.heap.size+1) (i:=0) (v:=(.slice (some ⟨gg,0,none⟩) ((Z5 Ya D.ops).len+1) cap2)) (by omega)
              have D5:=(G5.2 ((DD.out.moved M3.out).moved (Z0.of_below (blw _ _)))).set (b:=w.heap.size+1) (i:=0) (v:=(.slice (some ⟨gg,0,none⟩) ((Z5 Ya D.ops).len+1) cap2)) (by omega)
              have K6:=Hd K5
              have R6:=Hd R5
              have D6:=Hd D5
              clear K5 R5 D5 G5 x0 x1 xf0 xf1
              generalize w4.setCell ⟨w.heap.size+1,0,none⟩ (.slice (some ⟨gg,0,none⟩) ((Z5 Ya D.ops).len+1) cap2)=w5 at *
              go_wp2_with fail
              refine (Jb r tq2 0 _ R6.out).mono ?_
              rintro e w6 ⟨rfl,rfl⟩
              have hE:=HE.out
              cases hem:tq2.isEmpty with
              | true =>
                rw [hem,if_pos rfl] at hE
                have HE2:=Hd hE
                have HM:=Hd (List.isEmpty_iff.1 hem)
                clear hE hem
                obtain ⟨x0,x1,xz⟩:=ptc K6.out.loc
                have xf0:=xz 0
                have xf1:=xz 1
                clear xz
                obtain ⟨u0,u1,uz⟩:=ptc K6.out.res
                have uf0:=uz 0
                have uf1:=uz 1
                clear uz
                go_wp2_with fail
                have f1:=Y9 (b:=w.heap.size) (t:=26) (ys:=[.slice none 0 0,.slice none 0 0]) (xs:=[(.slice (some ⟨gg,0,none⟩) ((Z5 Ya D.ops).len+1) cap2),.slice A2 (Z5 Ur D.frags).len c2]) rfl K6.out.res
                have f2:=R6.out.setAll (b:=w.heap.size) K6.out.hr [(.slice (some ⟨gg,0,none⟩) ((Z5 Ya D.ops).len+1) cap2),.slice A2 (Z5 Ur D.frags).len c2] 0
                have f3:=Z0.setAll (r:=r) (b:=w.heap.size) (Nat.le_refl _) [(.slice (some ⟨gg,0,none⟩) ((Z5 Ya D.ops).len+1) cap2),.slice A2 (Z5 Ur D.frags).len c2] 0 _ K6.out.mv
                have FT:=(K6.out.tree (by simp only [List.length_append,List.length_singleton];omega) (by dsimp only;omega)).fin (w:=w) (Nat.le_succ _) [(.slice (some ⟨gg,0,none⟩) ((Z5 Ya D.ops).len+1) cap2),.slice A2 (Z5 Ur D.frags).len c2]
                rw [HM.out] at f2
                have FP:=HQ.out _ _ (X6 (a:=(⟨D.ops++[a],D.frags⟩:Vs)) (Qc HE2.out.symm) ⟨[(.slice (some ⟨gg,0,none⟩) ((Z5 Ya D.ops).len+1) cap2),.slice A2 (Z5 Ur D.frags).len c2],rfl,FT⟩ f2 f3)
                exact Y8 rfl rfl rfl f1 Tryz.underlying26 ⟨_,rfl⟩ (by kernel_rfl) FP
              | false =>
                rw [hem] at hE
                simp only [Bool.false_eq_true,if_false] at hE
                have HE2:=Hd hE
                clear hE hem
                go_wp2_with fail
                go_roundg g
                case measure=>omega
                case rel=>exact ⟨(⟨D.ops++[a],D.frags⟩:Vs),tq2,_,_,_,_,_,_,_,_,by omega,by simp only [List.length_append,List.length_singleton];omega,Zu ⟨K6.out,R6.out,D6.out,G3.out,HE2.out⟩⟩
      rotate_left
      have hb2:atB 2 J2 tq=false:=by simpa using fun h=>hnop (.inl h)
      have hb3:atB 2 Nz tq=false:=by simpa using fun h=>hnop (.inr h)
      refine (Zv r tq 0 2 J2 _ RX.out).mono ?_
      intro e wk0 h
      rw [hb2] at h
      obtain ⟨rfl,rr,mm⟩:=h
      rw [Vg hb2] at rr
      have K0n:=Hd (KX.out.next mm)
      have R0n:=Hd rr
      have D0n:=Hd (DX.out.moved mm)
      clear rr mm
      go_wp2_with fail
      refine (Zv r tq 0 2 Nz _ R0n.out).mono ?_
      intro e wk1 h
      rw [hb3] at h
      obtain ⟨rfl,rr,mm⟩:=h
      rw [Vg hb3] at rr
      have K1n:=Hd (K0n.out.next mm)
      have R1n:=Hd rr
      have D1n:=Hd (D0n.out.moved mm)
      clear rr mm
      go_wp2_with fail
      refine (Zv r tq 0 2 Cr _ R1n.out).mono ?_
      intro e wk2 h
      cases hb4:atB 2 Cr tq with
      | true =>
        rw [hb4] at h
        obtain ⟨rfl,rr,mm⟩:=h
        rw [Jl hb4] at rr
        have K2:=Hd (K1n.out.next mm)
        have R2:=Hd rr
        have D2:=Hd (D1n.out.moved mm)
        have hlt1:=(Zf hb4).2
        have G2:=Hd (G2.out.sub (Zf hb4).1)
        clear rr mm
        have HEE:Hid (∀ x,Ud 0 tq.tail=.error x→Mc ts=.error x):=Hd (fun x hv=>by rw [← EX.out,Mf,Zzg];simp only [hb1,hb2,hb3,hb4,hv,if_true,if_false,Bool.false_eq_true])
        have HEO:Hid (∀ a tq2,Ud 0 tq.tail=.ok (a,tq2)→(if tq2.isEmpty=true then .ok (⟨D.ops,D.frags++[a]⟩:Vs) else Mf g (⟨D.ops,D.frags++[a]⟩:Vs) tq2)=Mc ts):=Hd (fun a tq2 hv=>by rw [← EX.out,Mf,Zzg];simp only [hb1,hb2,hb3,hb4,hv,if_true,if_false,Bool.false_eq_true])
        have KD:=Hd (K2.out.next (Z0.of_below (Below.drew (Below.refl _ _))))
        have RD:=Hd (R2.out.below (Below.drew (Below.refl _ _)))
        have DD:=Hd (D2.out.moved (Z0.of_below (r:=r) (Below.drew (Below.refl _ _))))
        obtain ⟨y0,y1,yz⟩:=ptc KD.out.loc
        have yf0:=yz 0
        have yf1:=yz 1
        clear yz
        go_wp2_with fail
        cases hv:Ud 0 tq.tail with
        | error x =>
          have HE:=Hd (HEE.out _ hv)
          refine wp_region_held_drew (S:=fun _=>True) (by kernel_rfl) trivial (fun _=>?_)
          refine tkE (i:=0) (v:=?_) rfl (Or.inl ⟨by rfl,?_⟩) ?_
          rotate_left
          · (intro w _;go_simp;try with_reducible rfl)
          simp only [Act.put,List.setIfInBounds_toArray]
          refine tkE (i:=2) (v:=?_) rfl (Or.inl ⟨by rfl,?_⟩) ?_
          rotate_left
          · (intro w _;go_simp;try with_reducible rfl)
          simp only [Act.put]
          refine rdE (rs:=[1,3]) ?_
          refine AllReadyH.cons rfl (fun K hK=>?_) ?_
          · skip
            go_simp
            refine hK.out _ _ trivial (fun _=>?_)
            clear hK K
            try simp only [Act.put,stT,stZ,stS]
            refine rd1E 3 rfl (fun K hK=>?_)
            go_simp
            go_at_call 99
            refine (Dh 0 tq.tail r _ G2.out (Nat.zero_le _) RD.out DD.out).mono ?_
            intro e w3 h
            rw [hv] at h
            obtain ⟨rfl,m3⟩:=Yr h
            exact ⟨rfl,HQ.out _ _ (per (I7 HE.out) (KD.out.mv.trans m3))⟩
          refine AllReadyH.cons rfl (fun K hK=>?_) AllReadyH.nil
          go_simp
          go_at_call 99
          refine (Dh 0 tq.tail r _ G2.out (Nat.zero_le _) RD.out DD.out).mono ?_
          intro e w3 h
          rw [hv] at h
          obtain ⟨rfl,m3⟩:=Yr h
          exact ⟨rfl,HQ.out _ _ (per (I7 HE.out) (KD.out.mv.trans m3))⟩
        | ok p =>
          obtain ⟨a,tq2⟩:=p
          have hlt2:=(Pp hv).2
          have G3:=Hd (G2.out.sub (Pp hv).1)
          have HE:=Hd (HEO.out _ _ hv)
          have HV:=Hd hv
          clear hv
          refine wp_region_held_drew (S:=fun _=>True) (by kernel_rfl) trivial (fun _=>?_)
          refine tkE (i:=0) (v:=?_) rfl (Or.inl ⟨by rfl,?_⟩) ?_
          rotate_left
          · (intro w _;go_simp;try with_reducible rfl)
          simp only [Act.put,List.setIfInBounds_toArray]
          refine tkE (i:=2) (v:=?_) rfl (Or.inl ⟨by rfl,?_⟩) ?_
          rotate_left
          · (intro w _;go_simp;try with_reducible rfl)
          simp only [Act.put]
          refine rd2E 1 3 rfl rfl (fun K hK=>?_) (fun K hK=>?_)
          focus
            go_simp
            refine hK.out _ _ trivial (fun _=>?_)
            clear hK K
            try simp only [Act.put,stT,stZ,stS]
            refine rd1E 3 rfl (fun K hK=>?_)
            go_simp
            go_at_call 99
            refine (Dh 0 tq.tail r _ G2.out (Nat.zero_le _) RD.out DD.out).mono ?_
            intro e w3 h
            rw [HV.out] at h
            obtain ⟨⟨v,rfl,hl⟩,r3,m3⟩:=Jh h
            obtain ⟨z0,z1,A9,n9,k9,B9,m9,l9,rfl,hts⟩:=Sk hl
            have TS3:=Hd (hts)
            have R3:=Hd r3
            have M3:=Hd m3
            have K3:=Hd (KD.out.next m3)
            clear h hl r3 m3 y0 y1 yf0 yf1 hts
            obtain ⟨j0,j1,jz⟩:=ptc K3.out.loc
            have jf0:=jz 0
            have jf1:=jz 1
            clear jz
            have jA:=fun o=>(World.cell?_of_block (a:=⟨w.heap.size+1,1,none⟩) (Below.heap_alloc w3 o _ (Nat.lt_of_succ_le K3.out.lt))).trans j1
            skip
            refine hK.out _ _ trivial (fun _=>?_)
            clear hK K
            try simp only [Act.put,stT,stZ,stS]
            refine rd1E 4 rfl (fun K hK=>?_)
            go_simp
            refine hK.out _ _ trivial (fun _=>?_)
            clear hK K
            try simp only [Act.put,stT,stZ,stS]
            refine rd1E 5 rfl (fun K hK=>?_)
            skip
          rotate_left
          focus
            go_simp
            go_at_call 99
            refine (Dh 0 tq.tail r _ G2.out (Nat.zero_le _) RD.out DD.out).mono ?_
            intro e w3 h
            rw [HV.out] at h
            obtain ⟨⟨v,rfl,hl⟩,r3,m3⟩:=Jh h
            obtain ⟨z0,z1,A9,n9,k9,B9,m9,l9,rfl,hts⟩:=Sk hl
            have TS3:=Hd (hts)
            have R3:=Hd r3
            have M3:=Hd m3
            have K3:=Hd (KD.out.next m3)
            clear h hl r3 m3 y0 y1 yf0 yf1 hts
            obtain ⟨j0,j1,jz⟩:=ptc K3.out.loc
            have jf0:=jz 0
            have jf1:=jz 1
            clear jz
            have jA:=fun o=>(World.cell?_of_block (a:=⟨w.heap.size+1,1,none⟩) (Below.heap_alloc w3 o _ (Nat.lt_of_succ_le K3.out.lt))).trans j1
            skip
            refine hK.out _ _ trivial (fun _=>?_)
            clear hK K
            try simp only [Act.put,stT,stZ,stS]
            refine rd2E 1 4 rfl rfl (fun K hK=>?_) (fun K hK=>?_)
            focus
              go_simp
              refine hK.out _ _ trivial (fun _=>?_)
              clear hK K
              try simp only [Act.put,stT,stZ,stS]
              refine rd1E 4 rfl (fun K hK=>?_)
              go_simp
              refine hK.out _ _ trivial (fun _=>?_)
              clear hK K
              try simp only [Act.put,stT,stZ,stS]
              refine rd1E 5 rfl (fun K hK=>?_)
              skip
            rotate_left
            focus
              go_simp
              refine hK.out _ _ trivial (fun _=>?_)
              clear hK K
              try simp only [Act.put,stT,stZ,stS]
              refine rd1E 1 rfl (fun K hK=>?_)
              go_simp
              refine hK.out _ _ trivial (fun _=>?_)
              clear hK K
              try simp only [Act.put,stT,stZ,stS]
              refine rd1E 5 rfl (fun K hK=>?_)
              skip
          all_goals
            refine step_append_lies _ (by rfl) _ _ 24 (by rfl) (w.heap.size+2) 87 i1 (.agg #[.string ⟨#[]⟩,.string ⟨#[]⟩,.slice none 0 0,.slice none 0 0]) 4 80 Tryz.underlying24 gi gz0 gz1 gz2 (by rfl) (by decide) _ (Z5 Ur D.frags).len xs2 (by rfl) (Xn K3.out.r2.own ((Below.refl _ _).alloc (Nat.le_refl _) _)) _ 1 1 [.string z0,.string z1,.slice A9 n9 k9,.slice B9 m9 l9] (by rfl) (by rfl) (fun j u hj=>World.news_of_block (heap_alloc_new _ _) j u hj) (by intro y hy;simp at hy;rcases hy with rfl|rfl|rfl|rfl<;>rfl) (by decide) (by unfold maxLen;rw [Zt];omega) (by rw [Zt];omega) (by have h1:=K3.out.lt;simp;omega) _ (by rfl) ?_
            intro gg cap2 w4 hown4 hgrow hat hlt4
            have HG4:=Hd hgrow
            have HO4:=Hd hown4
            have HT4:=Hd hat
            have HL4:=Hd (K3.out.grown hgrow K3.out.own2)
            clear hgrow hown4 hat j0 j1 jf0 jf1 jA
            obtain ⟨x0,x1,xz⟩:=ptc HL4.out.2.1
            have xf0:=xz 0
            have xf1:=xz 1
            clear xz
            refine hK.out _ _ trivial (fun _=>?_)
            clear hK K
            simp only [Act.put,List.setIfInBounds_toArray]
            refine rd1E 6 rfl (fun K hK=>?_)
            go_simp
            refine hK.out _ _ trivial (fun _=>?_)
            clear hK K
            try simp only [Act.put,stT,stZ,stS]
            refine rd1E 7 rfl (fun K hK=>?_)
            go_simp
            refine hK.out _ _ trivial (fun _=>?_)
            clear hK K
            try simp only [Act.put,stT,stZ,stS]
            refine wpAnyH_done (by kernel_rfl) ?_ _
            obtain ⟨P5,K5⟩:=DK.app2 (x:=a) KD.out M3.out TS3.out HO4.out HG4.out HT4.out
            have G5:=Jm HG4.out (r:=r) (fun b hb=>by have:=K3.out.own2 b hb;have:=K3.out.hr;omega)
            have hr9:=K3.out.hr
            have R5:=(G5.1 _ _ (R3.out.below (blw _ _))).set (b:=w.heap.size+1) (i:=1) (v:=(.slice (some ⟨gg,0,none⟩) ((Z5 Ur D.frags).len+1) cap2)) (by omega)
            have D5:=(G5.2 ((DD.out.moved M3.out).moved (Z0.of_below (blw _ _)))).set (b:=w.heap.size+1) (i:=1) (v:=(.slice (some ⟨gg,0,none⟩) ((Z5 Ur D.frags).len+1) cap2)) (by omega)
            have K6:=Hd K5
            have R6:=Hd R5
            have D6:=Hd D5
            clear K5 R5 D5 G5 x0 x1 xf0 xf1
            generalize w4.setCell ⟨w.heap.size+1,1,none⟩ (.slice (some ⟨gg,0,none⟩) ((Z5 Ur D.frags).len+1) cap2)=w5 at *
            go_wp2_with fail
            refine (Jb r tq2 0 _ R6.out).mono ?_
            rintro e w6 ⟨rfl,rfl⟩
            have hE:=HE.out
            cases hem:tq2.isEmpty with
            | true =>
              rw [hem,if_pos rfl] at hE
              have HE2:=Hd hE
              have HM:=Hd (List.isEmpty_iff.1 hem)
              clear hE hem
              obtain ⟨x0,x1,xz⟩:=ptc K6.out.loc
              have xf0:=xz 0
              have xf1:=xz 1
              clear xz
              obtain ⟨u0,u1,uz⟩:=ptc K6.out.res
              have uf0:=uz 0
              have uf1:=uz 1
              clear uz
              go_wp2_with fail
              have f1:=Y9 (b:=w.heap.size) (t:=26) (ys:=[.slice none 0 0,.slice none 0 0]) (xs:=[.slice A1 (Z5 Ya D.ops).len c1,(.slice (some ⟨gg,0,none⟩) ((Z5 Ur D.frags).len+1) cap2)]) rfl K6.out.res
              have f2:=R6.out.setAll (b:=w.heap.size) K6.out.hr [.slice A1 (Z5 Ya D.ops).len c1,(.slice (some ⟨gg,0,none⟩) ((Z5 Ur D.frags).len+1) cap2)] 0
              have f3:=Z0.setAll (r:=r) (b:=w.heap.size) (Nat.le_refl _) [.slice A1 (Z5 Ya D.ops).len c1,(.slice (some ⟨gg,0,none⟩) ((Z5 Ur D.frags).len+1) cap2)] 0 _ K6.out.mv
              have FT:=(K6.out.tree (by dsimp only;omega) (by simp only [List.length_append,List.length_singleton];omega)).fin (w:=w) (Nat.le_succ _) [.slice A1 (Z5 Ya D.ops).len c1,(.slice (some ⟨gg,0,none⟩) ((Z5 Ur D.frags).len+1) cap2)]
              rw [HM.out] at f2
              have FP:=HQ.out _ _ (X6 (a:=(⟨D.ops,D.frags++[a]⟩:Vs)) (Qc HE2.out.symm) ⟨[.slice A1 (Z5 Ya D.ops).len c1,(.slice (some ⟨gg,0,none⟩) ((Z5 Ur D.frags).len+1) cap2)],rfl,FT⟩ f2 f3)
              exact Y8 rfl rfl rfl f1 Tryz.underlying26 ⟨_,rfl⟩ (by kernel_rfl) FP
            | false =>
              rw [hem] at hE
              simp only [Bool.false_eq_true,if_false] at hE
              have HE2:=Hd hE
              clear hE hem
              go_wp2_with fail
              go_roundg g
              case measure=>omega
              case rel=>exact ⟨(⟨D.ops,D.frags++[a]⟩:Vs),tq2,_,_,_,_,_,_,_,_,by omega,by simp only [List.length_append,List.length_singleton];omega,Zu ⟨K6.out,R6.out,D6.out,G3.out,HE2.out⟩⟩
      | false =>
        rw [hb4] at h
        obtain ⟨rfl,rr,mm⟩:=h
        rw [Vg hb4] at rr
        have K2n:=Hd (K1n.out.next mm)
        have R2n:=Hd rr
        have D2n:=Hd (D1n.out.moved mm)
        clear rr mm
        go_wp2_with fail
        exact ⟨rfl,HQ.out _ _ (per (I7 (show Mc ts=.error 2 by rw [← EX.out,Mf,Zzg];simp only [hb1,hb2,hb3,hb4,if_false,Bool.false_eq_true])) K2n.out.mv)⟩
end Go.Proofs.YtpkmbhnikilihaaGreatDoor
