/- The landed document: its walk. -/
import Derived.Test.YtpkmbhnikilihaaGreatDoorQv27
set_option maxRecDepth 100000
set_option maxHeartbeats 16000000
namespace Go.Proofs.YtpkmbhnikilihaaGreatDoor
open Go.RowKit
def docRr (ts:List Tok):Except Int (DocT × List Tok):=match docR ts with | .ok D=>.ok (D,[]) | .error x=>.error x
theorem docRr_ok {ts:List Tok} {D:DocT} (h:docR ts=.ok D):docRr ts=.ok (D,[]):=by unfold docRr;rw [h]
theorem docRr_err {ts:List Tok} {x:Int} (h:docR ts=.error x):docRr ts=.error x:=by unfold docRr;rw [h]
theorem info_O:(Tryz.prog.info? 68).map (fun i=>(i.zero,i.size,i.bytes))=some (some (.agg #[.int .i64 0,.string ⟨#[]⟩,.slice none 0 0,.slice none 0 0,.slice none 0 0]),5,96):=by kernel_rfl
theorem info_F:(Tryz.prog.info? 87).map (fun i=>(i.zero,i.size,i.bytes))=some (some (.agg #[.string ⟨#[]⟩,.string ⟨#[]⟩,.slice none 0 0,.slice none 0 0]),4,80):=by kernel_rfl
theorem doc_any (ts:List Tok) (r:Nat) (w:World) (hG:GoodD ts) (hR:Rd w r ts 0) (hK:KRd r w):Calls Tryz.prog 42 #[.pointer (some ⟨r,0,none⟩)] w (Post r 0 w (layS encDoc) (docRr ts)):=by
 suffices H:∀ Q:Ending→World→Prop,(∀ e w',Post r 0 w (layS encDoc) (docRr ts) e w'→Q e w')→Calls Tryz.prog 42 #[.pointer (some ⟨r,0,none⟩)] w Q from H _ (fun _ _ h=>h)
 intro Q hQ
 obtain ⟨i0,hi,hz0,hz1,hz2⟩:=info_parts info_O
 obtain ⟨i1,gi,gz0,gz1,gz2⟩:=info_parts info_F
 have HQ:=Hd hQ
 have hr:=hR.lt
 have hlen:ts.length≤200000:=by obtain ⟨_,_,_,_,h,_⟩:=hR;exact h
 have K0:=Hd (DK.start w r hr)
 have B0:=Hd (two_below' w (.cells #[.slice none 0 0,.slice none 0 0] 26) (.cells #[.slice none 0 0,.slice none 0 0] 26))
 have R0:=Hd (hR.below B0.out)
 have D0:=Hd (hK.moved (Moved.of_below B0.out))
 have G0:=Hd hG
 clear hQ hR hK hG
 go_enter Tryz.func42,Tryz.ntmps42
 go_wp2_with fail
 go_loopg [] (ts.length+1) (fun g wx=>∃ (D:DocT) (tq:List Tok) (V1 V2:Value) (xs1 xs2:List Value) (P1 X1 P2 X2:Nat→Prop),tq.length+1≤g∧D.ops.length+D.frags.length+tq.length≤200000∧Aside (DK w r wx V1 V2 D xs1 xs2 P1 X1 P2 X2∧Rd wx r tq 0∧KRd r wx∧GoodD tq∧docF g D tq=docR ts))
 case atStart=>exact ⟨⟨[],[]⟩,ts,_,_,_,_,_,_,_,_,Nat.le_refl _,by simpa using hlen,vaside ⟨K0.out,R0.out,D0.out,G0.out,rfl⟩⟩
 case round =>
  obtain ⟨D,tq,V1,V2,xs1,xs2,P1,X1,P2,X2,hq,hal,HA⟩:=hrel
  have KX:=Hd HA.out.1
  have RX:=Hd HA.out.2.1
  have DX:=Hd HA.out.2.2.1
  have G2:=Hd HA.out.2.2.2.1
  have EX:=Hd HA.out.2.2.2.2
  clear HA K0 R0 D0 B0 G0
  obtain ⟨A1,c1,rfl⟩:=shape_own KX.out.r1.own
  obtain ⟨A2,c2,rfl⟩:=shape_own KX.out.r2.own
  cases gk with
  | zero=>omega
  | succ g =>
    go_wp2_with fail
    refine (at_any r tq 0 1 omB _ RX.out).mono ?_
    intro e w1 h
    cases hb1:atB 1 omB tq with
    | true =>
      rw [hb1] at h
      obtain ⟨rfl,rfl⟩:=h
      have K2:=KX
      have R2:=RX
      have D2:=DX
      have KD:=Hd (K2.out.next (Moved.of_below (Below.drew (Below.refl _ _))))
      have RD:=Hd (R2.out.below (Below.drew (Below.refl _ _)))
      have DD:=Hd (D2.out.moved (Moved.of_below (r:=r) (Below.drew (Below.refl _ _))))
      obtain ⟨y0,y1,yz⟩:=ptc KD.out.loc
      have yf0:=yz 0
      have yf1:=yz 1
      clear yz
      go_wp2_with fail
      cases hv:selsD 0 tq with
      | error x =>
        have HE:=Hd (show docR ts=.error x by rw [← EX.out,docF,defR];simp only [hb1,hv,if_true])
        refine wp_region_held_drew (S:=fun _=>True) (by kernel_rfl) trivial (fun _=>?_)
        refine wpAnyH_take (i:=0) (v:=?_) rfl (by kernel_rfl) (by kernel_rfl) (by kernel_rfl) (fun _ _ _ h=>h) (Or.inl ⟨by rfl,?_⟩) trivial ?_
        rotate_left
        · (intro w _;go_simp;try with_reducible rfl)
        simp only [Act.put,List.setIfInBounds_toArray]
        refine wpAnyH_take (i:=2) (v:=?_) rfl (by kernel_rfl) (by kernel_rfl) (by kernel_rfl) (fun _ _ _ h=>h) (Or.inl ⟨by rfl,?_⟩) trivial ?_
        rotate_left
        · (intro w _;go_simp;try with_reducible rfl)
        simp only [Act.put]
        refine wpAnyH_ready (rs:=[1,3]) (by kernel_rfl) (by simp) ?_
        refine AllReadyH.cons rfl (fun K hK=>?_) ?_
        · skip
          go_simp
          refine hK.out _ _ trivial (fun _=>?_)
          clear hK K
          try simp only [Act.put,stT,stZ,stS]
          refine wpAnyH_ready (rs:=[3]) (by kernel_rfl) (by simp) ?_
          refine AllReadyH.cons rfl (fun K hK=>?_) AllReadyH.nil
          go_simp
          go_at_call 96
          refine (sels_any 0 tq r _ G2.out (Nat.zero_le _) RD.out DD.out).mono ?_
          intro e w3 h
          rw [hv] at h
          obtain ⟨rfl,m3⟩:=of_err h
          exact ⟨rfl,HQ.out _ _ (per (docRr_err HE.out) (KD.out.mv.trans m3))⟩
        refine AllReadyH.cons rfl (fun K hK=>?_) AllReadyH.nil
        go_simp
        go_at_call 96
        refine (sels_any 0 tq r _ G2.out (Nat.zero_le _) RD.out DD.out).mono ?_
        intro e w3 h
        rw [hv] at h
        obtain ⟨rfl,m3⟩:=of_err h
        exact ⟨rfl,HQ.out _ _ (per (docRr_err HE.out) (KD.out.mv.trans m3))⟩
      | ok p =>
        obtain ⟨a,tq2⟩:=p
        have hlt2:=(sels_sfx hv).2
        have G3:=Hd (G2.out.sub (sels_sfx hv).1)
        have HE:=Hd (show (if tq2.isEmpty=true then .ok (⟨D.ops++[⟨0,eB,[],[],a⟩],D.frags⟩:DocT) else docF g (⟨D.ops++[⟨0,eB,[],[],a⟩],D.frags⟩:DocT) tq2)=docR ts by rw [← EX.out,docF,defR];simp only [hb1,hv,if_true])
        have HV:=Hd hv
        clear hv
        refine wp_region_held_drew (S:=fun _=>True) (by kernel_rfl) trivial (fun _=>?_)
        refine wpAnyH_take (i:=0) (v:=?_) rfl (by kernel_rfl) (by kernel_rfl) (by kernel_rfl) (fun _ _ _ h=>h) (Or.inl ⟨by rfl,?_⟩) trivial ?_
        rotate_left
        · (intro w _;go_simp;try with_reducible rfl)
        simp only [Act.put,List.setIfInBounds_toArray]
        refine wpAnyH_take (i:=2) (v:=?_) rfl (by kernel_rfl) (by kernel_rfl) (by kernel_rfl) (fun _ _ _ h=>h) (Or.inl ⟨by rfl,?_⟩) trivial ?_
        rotate_left
        · (intro w _;go_simp;try with_reducible rfl)
        simp only [Act.put]
        refine wpAnyH_ready (rs:=[1,3]) (by kernel_rfl) (by simp) ?_
        refine AllReadyH.cons rfl (fun K hK=>?_) ?_
        · skip
          go_simp
          refine hK.out _ _ trivial (fun _=>?_)
          clear hK K
          try simp only [Act.put,stT,stZ,stS]
          refine wpAnyH_ready (rs:=[3]) (by kernel_rfl) (by simp) ?_
          refine AllReadyH.cons rfl (fun K hK=>?_) AllReadyH.nil
          go_simp
          go_at_call 96
          refine (sels_any 0 tq r _ G2.out (Nat.zero_le _) RD.out DD.out).mono ?_
          intro e w3 h
          rw [HV.out] at h
          obtain ⟨⟨v,rfl,hl⟩,r3,m3⟩:=of_ok h
          obtain ⟨A9,k9,rfl,hts⟩:=row_open hl
          have TS3:=Hd ((TS.int (TS.str (Nat.zero_le _) (TS.row (TP.none _ _) (TS.row (TP.none _ _) (TS.row hts (TS.nil _ _))))):TS w3 _ (encOp (⟨0,eB,[],[],a⟩:OpT)) [.int .i64 0,.string ⟨#[]⟩,.slice none 0 0,.slice none 0 0,.slice A9 (encSL a).len k9]))
          have R3:=Hd r3
          have M3:=Hd m3
          have K3:=Hd (KD.out.next m3)
          clear h hl r3 m3 y0 y1 yf0 yf1 hts
          obtain ⟨j0,j1,jz⟩:=ptc K3.out.loc
          have jf0:=jz 0
          have jf1:=jz 1
          clear jz
          have jA:=fun o=>(World.cell?_of_block (a:=⟨w.heap.size+1,0,none⟩) (Below.heap_alloc w3 o _ (Nat.lt_of_succ_le K3.out.lt))).trans j0
          skip
          refine hK.out _ _ trivial (fun _=>?_)
          clear hK K
          try simp only [Act.put,stT,stZ,stS]
          refine wpAnyH_take (i:=4) (v:=?_) rfl (by kernel_rfl) (by kernel_rfl) (by kernel_rfl) (fun _ _ _ h=>h) (Or.inl ⟨by rfl,?_⟩) trivial ?_
          rotate_left
          · (intro w _;go_simp;try with_reducible rfl)
          simp only [Act.put,List.setIfInBounds_toArray]
          refine wpAnyH_ready (rs:=[5]) (by kernel_rfl) (by simp) ?_
          refine AllReadyH.cons rfl (fun K hK=>?_) AllReadyH.nil
          go_simp
          refine hK.out _ _ trivial (fun _=>?_)
          clear hK K
          try simp only [Act.put,stT,stZ,stS]
          refine wpAnyH_ready (rs:=[6]) (by kernel_rfl) (by simp) ?_
          refine AllReadyH.cons rfl (fun K hK=>?_) AllReadyH.nil
          refine step_append_lies _ (by rfl) _ _ 23 (by rfl) (w.heap.size+2) 68 i0 (.agg #[.int .i64 0,.string ⟨#[]⟩,.slice none 0 0,.slice none 0 0,.slice none 0 0]) 5 96 Tryz.underlying23 hi hz0 hz1 hz2 (by rfl) (by decide) _ (rowOf encOp D.ops).len xs1 (by rfl) (own_low K3.out.r1.own ((Below.refl _ _).alloc (Nat.le_refl _) _)) _ 1 1 [.int .i64 0,.string ⟨#[]⟩,.slice none 0 0,.slice none 0 0,.slice A9 (encSL a).len k9] (by rfl) (by rfl) (fun j u hj=>World.news_of_block (heap_alloc_new _ _) j u hj) (by intro y hy;simp at hy;rcases hy with rfl|rfl|rfl|rfl|rfl<;>rfl) (by decide) (by unfold maxLen;rw [rowOf_len];omega) (by rw [rowOf_len];omega) (by have h1:=K3.out.lt;simp;omega) _ (by rfl) ?_
          intro gg cap2 w4 hown4 hgrow hat hlt4
          have HG4:=Hd hgrow
          have HO4:=Hd hown4
          have HT4:=Hd hat
          have HL4:=Hd (K3.out.grown hgrow K3.out.own1)
          clear hgrow hown4 hat j0 j1 jf0 jf1 jA
          obtain ⟨x0,x1,xz⟩:=ptc HL4.out.2.1
          have xf0:=xz 0
          have xf1:=xz 1
          clear xz
          refine hK.out _ _ trivial (fun _=>?_)
          clear hK K
          simp only [Act.put,List.setIfInBounds_toArray]
          refine wpAnyH_ready (rs:=[7]) (by kernel_rfl) (by simp) ?_
          refine AllReadyH.cons rfl (fun K hK=>?_) AllReadyH.nil
          go_simp
          refine hK.out _ _ trivial (fun _=>?_)
          clear hK K
          try simp only [Act.put,stT,stZ,stS]
          refine wpAnyH_ready (rs:=[8]) (by kernel_rfl) (by simp) ?_
          refine AllReadyH.cons rfl (fun K hK=>?_) AllReadyH.nil
          go_simp
          refine hK.out _ _ trivial (fun _=>?_)
          clear hK K
          try simp only [Act.put,stT,stZ,stS]
          refine wpAnyH_done (by kernel_rfl) ?_ _
          obtain ⟨P5,K5⟩:=DK.app1 (x:=(⟨0,eB,[],[],a⟩:OpT)) KD.out M3.out TS3.out HO4.out HG4.out HT4.out
          have G5:=grown_keep HG4.out (r:=r) (fun b hb=>by have:=K3.out.own1 b hb;have:=K3.out.hr;omega)
          have hr9:=K3.out.hr
          have R5:=(G5.1 _ _ (R3.out.below (blw _ _))).set (b:=w.heap.size+1) (i:=0) (v:=(.slice (some ⟨gg,0,none⟩) ((rowOf encOp D.ops).len+1) cap2)) (by omega)
          have D5:=(G5.2 ((DD.out.moved M3.out).moved (Moved.of_below (blw _ _)))).set (b:=w.heap.size+1) (i:=0) (v:=(.slice (some ⟨gg,0,none⟩) ((rowOf encOp D.ops).len+1) cap2)) (by omega)
          have K6:=Hd K5
          have R6:=Hd R5
          have D6:=Hd D5
          clear K5 R5 D5 G5 x0 x1 xf0 xf1
          generalize w4.setCell ⟨w.heap.size+1,0,none⟩ (.slice (some ⟨gg,0,none⟩) ((rowOf encOp D.ops).len+1) cap2)=w5 at *
          go_wp2_with fail
          refine (ended_any r tq2 0 _ R6.out).mono ?_
          rintro e w6 ⟨rfl,rfl⟩
          have hE:=HE.out
          cases hem:tq2.isEmpty with
          | true =>
            rw [hem,if_pos rfl] at hE
            have HE2:=Hd hE
            have HM:=Hd (List.isEmpty_iff.1 hem)
            clear hE hem
            obtain ⟨x0,x1,xz⟩:=ptc K6.out.loc
            have xf0:=xz 0
            have xf1:=xz 1
            clear xz
            obtain ⟨u0,u1,uz⟩:=ptc K6.out.res
            have uf0:=uz 0
            have uf1:=uz 1
            clear uz
            go_wp2_with fail
            have f1:=setAll_row (b:=w.heap.size) (t:=26) (ys:=[.slice none 0 0,.slice none 0 0]) (xs:=[(.slice (some ⟨gg,0,none⟩) ((rowOf encOp D.ops).len+1) cap2),.slice A2 (rowOf encF D.frags).len c2]) rfl K6.out.res
            have f2:=R6.out.setAll (b:=w.heap.size) K6.out.hr [(.slice (some ⟨gg,0,none⟩) ((rowOf encOp D.ops).len+1) cap2),.slice A2 (rowOf encF D.frags).len c2] 0
            have f3:=Moved.setAll (r:=r) (b:=w.heap.size) (Nat.le_refl _) [(.slice (some ⟨gg,0,none⟩) ((rowOf encOp D.ops).len+1) cap2),.slice A2 (rowOf encF D.frags).len c2] 0 _ K6.out.mv
            have FT:=(K6.out.tree (by simp only [List.length_append,List.length_singleton];omega) (by dsimp only;omega)).fin (w:=w) (Nat.le_succ _) [(.slice (some ⟨gg,0,none⟩) ((rowOf encOp D.ops).len+1) cap2),.slice A2 (rowOf encF D.frags).len c2]
            rw [HM.out] at f2
            have FP:=HQ.out _ _ (post_ok (a:=(⟨D.ops++[⟨0,eB,[],[],a⟩],D.frags⟩:DocT)) (docRr_ok HE2.out.symm) ⟨[(.slice (some ⟨gg,0,none⟩) ((rowOf encOp D.ops).len+1) cap2),.slice A2 (rowOf encF D.frags).len c2],rfl,FT⟩ f2 f3)
            exact ret_st rfl rfl rfl f1 Tryz.underlying26 ⟨_,rfl⟩ (by kernel_rfl) FP
          | false =>
            rw [hem] at hE
            simp only [Bool.false_eq_true,if_false] at hE
            have HE2:=Hd hE
            clear hE hem
            go_wp2_with fail
            go_roundg g
            case measure=>omega
            case rel=>exact ⟨(⟨D.ops++[⟨0,eB,[],[],a⟩],D.frags⟩:DocT),tq2,_,_,_,_,_,_,_,_,by omega,by simp only [List.length_append,List.length_singleton];omega,vaside ⟨K6.out,R6.out,D6.out,G3.out,HE2.out⟩⟩
        refine AllReadyH.cons rfl (fun K hK=>?_) AllReadyH.nil
        go_simp
        go_at_call 96
        refine (sels_any 0 tq r _ G2.out (Nat.zero_le _) RD.out DD.out).mono ?_
        intro e w3 h
        rw [HV.out] at h
        obtain ⟨⟨v,rfl,hl⟩,r3,m3⟩:=of_ok h
        obtain ⟨A9,k9,rfl,hts⟩:=row_open hl
        have TS3:=Hd ((TS.int (TS.str (Nat.zero_le _) (TS.row (TP.none _ _) (TS.row (TP.none _ _) (TS.row hts (TS.nil _ _))))):TS w3 _ (encOp (⟨0,eB,[],[],a⟩:OpT)) [.int .i64 0,.string ⟨#[]⟩,.slice none 0 0,.slice none 0 0,.slice A9 (encSL a).len k9]))
        have R3:=Hd r3
        have M3:=Hd m3
        have K3:=Hd (KD.out.next m3)
        clear h hl r3 m3 y0 y1 yf0 yf1 hts
        obtain ⟨j0,j1,jz⟩:=ptc K3.out.loc
        have jf0:=jz 0
        have jf1:=jz 1
        clear jz
        have jA:=fun o=>(World.cell?_of_block (a:=⟨w.heap.size+1,0,none⟩) (Below.heap_alloc w3 o _ (Nat.lt_of_succ_le K3.out.lt))).trans j0
        skip
        refine hK.out _ _ trivial (fun _=>?_)
        clear hK K
        try simp only [Act.put,stT,stZ,stS]
        refine wpAnyH_take (i:=4) (v:=?_) rfl (by kernel_rfl) (by kernel_rfl) (by kernel_rfl) (fun _ _ _ h=>h) (Or.inl ⟨by rfl,?_⟩) trivial ?_
        rotate_left
        · (intro w _;go_simp;try with_reducible rfl)
        simp only [Act.put,List.setIfInBounds_toArray]
        refine wpAnyH_ready (rs:=[1,5]) (by kernel_rfl) (by simp) ?_
        refine AllReadyH.cons rfl (fun K hK=>?_) ?_
        · skip
          go_simp
          refine hK.out _ _ trivial (fun _=>?_)
          clear hK K
          try simp only [Act.put,stT,stZ,stS]
          refine wpAnyH_ready (rs:=[5]) (by kernel_rfl) (by simp) ?_
          refine AllReadyH.cons rfl (fun K hK=>?_) AllReadyH.nil
          go_simp
          refine hK.out _ _ trivial (fun _=>?_)
          clear hK K
          try simp only [Act.put,stT,stZ,stS]
          refine wpAnyH_ready (rs:=[6]) (by kernel_rfl) (by simp) ?_
          refine AllReadyH.cons rfl (fun K hK=>?_) AllReadyH.nil
          refine step_append_lies _ (by rfl) _ _ 23 (by rfl) (w.heap.size+2) 68 i0 (.agg #[.int .i64 0,.string ⟨#[]⟩,.slice none 0 0,.slice none 0 0,.slice none 0 0]) 5 96 Tryz.underlying23 hi hz0 hz1 hz2 (by rfl) (by decide) _ (rowOf encOp D.ops).len xs1 (by rfl) (own_low K3.out.r1.own ((Below.refl _ _).alloc (Nat.le_refl _) _)) _ 1 1 [.int .i64 0,.string ⟨#[]⟩,.slice none 0 0,.slice none 0 0,.slice A9 (encSL a).len k9] (by rfl) (by rfl) (fun j u hj=>World.news_of_block (heap_alloc_new _ _) j u hj) (by intro y hy;simp at hy;rcases hy with rfl|rfl|rfl|rfl|rfl<;>rfl) (by decide) (by unfold maxLen;rw [rowOf_len];omega) (by rw [rowOf_len];omega) (by have h1:=K3.out.lt;simp;omega) _ (by rfl) ?_
          intro gg cap2 w4 hown4 hgrow hat hlt4
          have HG4:=Hd hgrow
          have HO4:=Hd hown4
          have HT4:=Hd hat
          have HL4:=Hd (K3.out.grown hgrow K3.out.own1)
          clear hgrow hown4 hat j0 j1 jf0 jf1 jA
          obtain ⟨x0,x1,xz⟩:=ptc HL4.out.2.1
          have xf0:=xz 0
          have xf1:=xz 1
          clear xz
          refine hK.out _ _ trivial (fun _=>?_)
          clear hK K
          simp only [Act.put,List.setIfInBounds_toArray]
          refine wpAnyH_ready (rs:=[7]) (by kernel_rfl) (by simp) ?_
          refine AllReadyH.cons rfl (fun K hK=>?_) AllReadyH.nil
          go_simp
          refine hK.out _ _ trivial (fun _=>?_)
          clear hK K
          try simp only [Act.put,stT,stZ,stS]
          refine wpAnyH_ready (rs:=[8]) (by kernel_rfl) (by simp) ?_
          refine AllReadyH.cons rfl (fun K hK=>?_) AllReadyH.nil
          go_simp
          refine hK.out _ _ trivial (fun _=>?_)
          clear hK K
          try simp only [Act.put,stT,stZ,stS]
          refine wpAnyH_done (by kernel_rfl) ?_ _
          obtain ⟨P5,K5⟩:=DK.app1 (x:=(⟨0,eB,[],[],a⟩:OpT)) KD.out M3.out TS3.out HO4.out HG4.out HT4.out
          have G5:=grown_keep HG4.out (r:=r) (fun b hb=>by have:=K3.out.own1 b hb;have:=K3.out.hr;omega)
          have hr9:=K3.out.hr
          have R5:=(G5.1 _ _ (R3.out.below (blw _ _))).set (b:=w.heap.size+1) (i:=0) (v:=(.slice (some ⟨gg,0,none⟩) ((rowOf encOp D.ops).len+1) cap2)) (by omega)
          have D5:=(G5.2 ((DD.out.moved M3.out).moved (Moved.of_below (blw _ _)))).set (b:=w.heap.size+1) (i:=0) (v:=(.slice (some ⟨gg,0,none⟩) ((rowOf encOp D.ops).len+1) cap2)) (by omega)
          have K6:=Hd K5
          have R6:=Hd R5
          have D6:=Hd D5
          clear K5 R5 D5 G5 x0 x1 xf0 xf1
          generalize w4.setCell ⟨w.heap.size+1,0,none⟩ (.slice (some ⟨gg,0,none⟩) ((rowOf encOp D.ops).len+1) cap2)=w5 at *
          go_wp2_with fail
          refine (ended_any r tq2 0 _ R6.out).mono ?_
          rintro e w6 ⟨rfl,rfl⟩
          have hE:=HE.out
          cases hem:tq2.isEmpty with
          | true =>
            rw [hem,if_pos rfl] at hE
            have HE2:=Hd hE
            have HM:=Hd (List.isEmpty_iff.1 hem)
            clear hE hem
            obtain ⟨x0,x1,xz⟩:=ptc K6.out.loc
            have xf0:=xz 0
            have xf1:=xz 1
            clear xz
            obtain ⟨u0,u1,uz⟩:=ptc K6.out.res
            have uf0:=uz 0
            have uf1:=uz 1
            clear uz
            go_wp2_with fail
            have f1:=setAll_row (b:=w.heap.size) (t:=26) (ys:=[.slice none 0 0,.slice none 0 0]) (xs:=[(.slice (some ⟨gg,0,none⟩) ((rowOf encOp D.ops).len+1) cap2),.slice A2 (rowOf encF D.frags).len c2]) rfl K6.out.res
            have f2:=R6.out.setAll (b:=w.heap.size) K6.out.hr [(.slice (some ⟨gg,0,none⟩) ((rowOf encOp D.ops).len+1) cap2),.slice A2 (rowOf encF D.frags).len c2] 0
            have f3:=Moved.setAll (r:=r) (b:=w.heap.size) (Nat.le_refl _) [(.slice (some ⟨gg,0,none⟩) ((rowOf encOp D.ops).len+1) cap2),.slice A2 (rowOf encF D.frags).len c2] 0 _ K6.out.mv
            have FT:=(K6.out.tree (by simp only [List.length_append,List.length_singleton];omega) (by dsimp only;omega)).fin (w:=w) (Nat.le_succ _) [(.slice (some ⟨gg,0,none⟩) ((rowOf encOp D.ops).len+1) cap2),.slice A2 (rowOf encF D.frags).len c2]
            rw [HM.out] at f2
            have FP:=HQ.out _ _ (post_ok (a:=(⟨D.ops++[⟨0,eB,[],[],a⟩],D.frags⟩:DocT)) (docRr_ok HE2.out.symm) ⟨[(.slice (some ⟨gg,0,none⟩) ((rowOf encOp D.ops).len+1) cap2),.slice A2 (rowOf encF D.frags).len c2],rfl,FT⟩ f2 f3)
            exact ret_st rfl rfl rfl f1 Tryz.underlying26 ⟨_,rfl⟩ (by kernel_rfl) FP
          | false =>
            rw [hem] at hE
            simp only [Bool.false_eq_true,if_false] at hE
            have HE2:=Hd hE
            clear hE hem
            go_wp2_with fail
            go_roundg g
            case measure=>omega
            case rel=>exact ⟨(⟨D.ops++[⟨0,eB,[],[],a⟩],D.frags⟩:DocT),tq2,_,_,_,_,_,_,_,_,by omega,by simp only [List.length_append,List.length_singleton];omega,vaside ⟨K6.out,R6.out,D6.out,G3.out,HE2.out⟩⟩
        refine AllReadyH.cons rfl (fun K hK=>?_) AllReadyH.nil
        go_simp
        refine hK.out _ _ trivial (fun _=>?_)
        clear hK K
        try simp only [Act.put,stT,stZ,stS]
        refine wpAnyH_ready (rs:=[1]) (by kernel_rfl) (by simp) ?_
        refine AllReadyH.cons rfl (fun K hK=>?_) AllReadyH.nil
        go_simp
        refine hK.out _ _ trivial (fun _=>?_)
        clear hK K
        try simp only [Act.put,stT,stZ,stS]
        refine wpAnyH_ready (rs:=[6]) (by kernel_rfl) (by simp) ?_
        refine AllReadyH.cons rfl (fun K hK=>?_) AllReadyH.nil
        refine step_append_lies _ (by rfl) _ _ 23 (by rfl) (w.heap.size+2) 68 i0 (.agg #[.int .i64 0,.string ⟨#[]⟩,.slice none 0 0,.slice none 0 0,.slice none 0 0]) 5 96 Tryz.underlying23 hi hz0 hz1 hz2 (by rfl) (by decide) _ (rowOf encOp D.ops).len xs1 (by rfl) (own_low K3.out.r1.own ((Below.refl _ _).alloc (Nat.le_refl _) _)) _ 1 1 [.int .i64 0,.string ⟨#[]⟩,.slice none 0 0,.slice none 0 0,.slice A9 (encSL a).len k9] (by rfl) (by rfl) (fun j u hj=>World.news_of_block (heap_alloc_new _ _) j u hj) (by intro y hy;simp at hy;rcases hy with rfl|rfl|rfl|rfl|rfl<;>rfl) (by decide) (by unfold maxLen;rw [rowOf_len];omega) (by rw [rowOf_len];omega) (by have h1:=K3.out.lt;simp;omega) _ (by rfl) ?_
        intro gg cap2 w4 hown4 hgrow hat hlt4
        have HG4:=Hd hgrow
        have HO4:=Hd hown4
        have HT4:=Hd hat
        have HL4:=Hd (K3.out.grown hgrow K3.out.own1)
        clear hgrow hown4 hat j0 j1 jf0 jf1 jA
        obtain ⟨x0,x1,xz⟩:=ptc HL4.out.2.1
        have xf0:=xz 0
        have xf1:=xz 1
        clear xz
        refine hK.out _ _ trivial (fun _=>?_)
        clear hK K
        simp only [Act.put,List.setIfInBounds_toArray]
        refine wpAnyH_ready (rs:=[7]) (by kernel_rfl) (by simp) ?_
        refine AllReadyH.cons rfl (fun K hK=>?_) AllReadyH.nil
        go_simp
        refine hK.out _ _ trivial (fun _=>?_)
        clear hK K
        try simp only [Act.put,stT,stZ,stS]
        refine wpAnyH_ready (rs:=[8]) (by kernel_rfl) (by simp) ?_
        refine AllReadyH.cons rfl (fun K hK=>?_) AllReadyH.nil
        go_simp
        refine hK.out _ _ trivial (fun _=>?_)
        clear hK K
        try simp only [Act.put,stT,stZ,stS]
        refine wpAnyH_done (by kernel_rfl) ?_ _
        obtain ⟨P5,K5⟩:=DK.app1 (x:=(⟨0,eB,[],[],a⟩:OpT)) KD.out M3.out TS3.out HO4.out HG4.out HT4.out
        have G5:=grown_keep HG4.out (r:=r) (fun b hb=>by have:=K3.out.own1 b hb;have:=K3.out.hr;omega)
        have hr9:=K3.out.hr
        have R5:=(G5.1 _ _ (R3.out.below (blw _ _))).set (b:=w.heap.size+1) (i:=0) (v:=(.slice (some ⟨gg,0,none⟩) ((rowOf encOp D.ops).len+1) cap2)) (by omega)
        have D5:=(G5.2 ((DD.out.moved M3.out).moved (Moved.of_below (blw _ _)))).set (b:=w.heap.size+1) (i:=0) (v:=(.slice (some ⟨gg,0,none⟩) ((rowOf encOp D.ops).len+1) cap2)) (by omega)
        have K6:=Hd K5
        have R6:=Hd R5
        have D6:=Hd D5
        clear K5 R5 D5 G5 x0 x1 xf0 xf1
        generalize w4.setCell ⟨w.heap.size+1,0,none⟩ (.slice (some ⟨gg,0,none⟩) ((rowOf encOp D.ops).len+1) cap2)=w5 at *
        go_wp2_with fail
        refine (ended_any r tq2 0 _ R6.out).mono ?_
        rintro e w6 ⟨rfl,rfl⟩
        have hE:=HE.out
        cases hem:tq2.isEmpty with
        | true =>
          rw [hem,if_pos rfl] at hE
          have HE2:=Hd hE
          have HM:=Hd (List.isEmpty_iff.1 hem)
          clear hE hem
          obtain ⟨x0,x1,xz⟩:=ptc K6.out.loc
          have xf0:=xz 0
          have xf1:=xz 1
          clear xz
          obtain ⟨u0,u1,uz⟩:=ptc K6.out.res
          have uf0:=uz 0
          have uf1:=uz 1
          clear uz
          go_wp2_with fail
          have f1:=setAll_row (b:=w.heap.size) (t:=26) (ys:=[.slice none 0 0,.slice none 0 0]) (xs:=[(.slice (some ⟨gg,0,none⟩) ((rowOf encOp D.ops).len+1) cap2),.slice A2 (rowOf encF D.frags).len c2]) rfl K6.out.res
          have f2:=R6.out.setAll (b:=w.heap.size) K6.out.hr [(.slice (some ⟨gg,0,none⟩) ((rowOf encOp D.ops).len+1) cap2),.slice A2 (rowOf encF D.frags).len c2] 0
          have f3:=Moved.setAll (r:=r) (b:=w.heap.size) (Nat.le_refl _) [(.slice (some ⟨gg,0,none⟩) ((rowOf encOp D.ops).len+1) cap2),.slice A2 (rowOf encF D.frags).len c2] 0 _ K6.out.mv
          have FT:=(K6.out.tree (by simp only [List.length_append,List.length_singleton];omega) (by dsimp only;omega)).fin (w:=w) (Nat.le_succ _) [(.slice (some ⟨gg,0,none⟩) ((rowOf encOp D.ops).len+1) cap2),.slice A2 (rowOf encF D.frags).len c2]
          rw [HM.out] at f2
          have FP:=HQ.out _ _ (post_ok (a:=(⟨D.ops++[⟨0,eB,[],[],a⟩],D.frags⟩:DocT)) (docRr_ok HE2.out.symm) ⟨[(.slice (some ⟨gg,0,none⟩) ((rowOf encOp D.ops).len+1) cap2),.slice A2 (rowOf encF D.frags).len c2],rfl,FT⟩ f2 f3)
          exact ret_st rfl rfl rfl f1 Tryz.underlying26 ⟨_,rfl⟩ (by kernel_rfl) FP
        | false =>
          rw [hem] at hE
          simp only [Bool.false_eq_true,if_false] at hE
          have HE2:=Hd hE
          clear hE hem
          go_wp2_with fail
          go_roundg g
          case measure=>omega
          case rel=>exact ⟨(⟨D.ops++[⟨0,eB,[],[],a⟩],D.frags⟩:DocT),tq2,_,_,_,_,_,_,_,_,by omega,by simp only [List.length_append,List.length_singleton];omega,vaside ⟨K6.out,R6.out,D6.out,G3.out,HE2.out⟩⟩
    | false =>
      rw [hb1] at h
      obtain ⟨rfl,rfl⟩:=h
      go_wp2_with fail
      refine (skip_any r tq 0 2 queryB _ RX.out).mono ?_
      intro e wk0 h
      cases hb2:atB 2 queryB tq with
      | true =>
        rw [hb2] at h
        obtain ⟨rfl,rr,mm⟩:=h
        rw [skip_yes hb2] at rr
        have K2:=Hd (KX.out.next mm)
        have R2:=Hd rr
        have D2:=Hd (DX.out.moved mm)
        have hlt1:=(at_sfx hb2).2
        have G2:=Hd (G2.out.sub (at_sfx hb2).1)
        clear rr mm
        have KD:=Hd (K2.out.next (Moved.of_below (Below.drew (Below.refl _ _))))
        have RD:=Hd (R2.out.below (Below.drew (Below.refl _ _)))
        have DD:=Hd (D2.out.moved (Moved.of_below (r:=r) (Below.drew (Below.refl _ _))))
        obtain ⟨y0,y1,yz⟩:=ptc KD.out.loc
        have yf0:=yz 0
        have yf1:=yz 1
        clear yz
        go_wp2_with fail
        cases hv:opR 0 0 tq.tail with
        | error x =>
          have HE:=Hd (show docR ts=.error x by rw [← EX.out,docF,defR];simp only [hb1,hb2,hv,if_true,if_false,Bool.false_eq_true])
          refine wp_region_held_drew (S:=fun _=>True) (by kernel_rfl) trivial (fun _=>?_)
          refine wpAnyH_take (i:=0) (v:=?_) rfl (by kernel_rfl) (by kernel_rfl) (by kernel_rfl) (fun _ _ _ h=>h) (Or.inl ⟨by rfl,?_⟩) trivial ?_
          rotate_left
          · (intro w _;go_simp;try with_reducible rfl)
          simp only [Act.put,List.setIfInBounds_toArray]
          refine wpAnyH_take (i:=2) (v:=?_) rfl (by kernel_rfl) (by kernel_rfl) (by kernel_rfl) (fun _ _ _ h=>h) (Or.inl ⟨by rfl,?_⟩) trivial ?_
          rotate_left
          · (intro w _;go_simp;try with_reducible rfl)
          simp only [Act.put]
          refine wpAnyH_ready (rs:=[1,3]) (by kernel_rfl) (by simp) ?_
          refine AllReadyH.cons rfl (fun K hK=>?_) ?_
          · skip
            go_simp
            refine hK.out _ _ trivial (fun _=>?_)
            clear hK K
            try simp only [Act.put,stT,stZ,stS]
            refine wpAnyH_ready (rs:=[3]) (by kernel_rfl) (by simp) ?_
            refine AllReadyH.cons rfl (fun K hK=>?_) AllReadyH.nil
            go_simp
            go_at_call 98
            refine (op_any 0 0 tq.tail r _ G2.out (Nat.zero_le _) RD.out DD.out).mono ?_
            intro e w3 h
            rw [hv] at h
            obtain ⟨rfl,m3⟩:=of_err h
            exact ⟨rfl,HQ.out _ _ (per (docRr_err HE.out) (KD.out.mv.trans m3))⟩
          refine AllReadyH.cons rfl (fun K hK=>?_) AllReadyH.nil
          go_simp
          go_at_call 98
          refine (op_any 0 0 tq.tail r _ G2.out (Nat.zero_le _) RD.out DD.out).mono ?_
          intro e w3 h
          rw [hv] at h
          obtain ⟨rfl,m3⟩:=of_err h
          exact ⟨rfl,HQ.out _ _ (per (docRr_err HE.out) (KD.out.mv.trans m3))⟩
        | ok p =>
          obtain ⟨a,tq2⟩:=p
          have hlt2:=(op_sfx hv).2
          have G3:=Hd (G2.out.sub (op_sfx hv).1)
          have HE:=Hd (show (if tq2.isEmpty=true then .ok (⟨D.ops++[a],D.frags⟩:DocT) else docF g (⟨D.ops++[a],D.frags⟩:DocT) tq2)=docR ts by rw [← EX.out,docF,defR];simp only [hb1,hb2,hv,if_true,if_false,Bool.false_eq_true])
          have HV:=Hd hv
          clear hv
          refine wp_region_held_drew (S:=fun _=>True) (by kernel_rfl) trivial (fun _=>?_)
          refine wpAnyH_take (i:=0) (v:=?_) rfl (by kernel_rfl) (by kernel_rfl) (by kernel_rfl) (fun _ _ _ h=>h) (Or.inl ⟨by rfl,?_⟩) trivial ?_
          rotate_left
          · (intro w _;go_simp;try with_reducible rfl)
          simp only [Act.put,List.setIfInBounds_toArray]
          refine wpAnyH_take (i:=2) (v:=?_) rfl (by kernel_rfl) (by kernel_rfl) (by kernel_rfl) (fun _ _ _ h=>h) (Or.inl ⟨by rfl,?_⟩) trivial ?_
          rotate_left
          · (intro w _;go_simp;try with_reducible rfl)
          simp only [Act.put]
          refine wpAnyH_ready (rs:=[1,3]) (by kernel_rfl) (by simp) ?_
          refine AllReadyH.cons rfl (fun K hK=>?_) ?_
          · skip
            go_simp
            refine hK.out _ _ trivial (fun _=>?_)
            clear hK K
            try simp only [Act.put,stT,stZ,stS]
            refine wpAnyH_ready (rs:=[3]) (by kernel_rfl) (by simp) ?_
            refine AllReadyH.cons rfl (fun K hK=>?_) AllReadyH.nil
            go_simp
            go_at_call 98
            refine (op_any 0 0 tq.tail r _ G2.out (Nat.zero_le _) RD.out DD.out).mono ?_
            intro e w3 h
            rw [HV.out] at h
            obtain ⟨⟨v,rfl,hl⟩,r3,m3⟩:=of_ok h
            obtain ⟨z0,z1,A9,n9,k9,B9,m9,l9,C9,o9,q9,rfl,hts⟩:=op_open hl
            have TS3:=Hd (hts)
            have R3:=Hd r3
            have M3:=Hd m3
            have K3:=Hd (KD.out.next m3)
            clear h hl r3 m3 y0 y1 yf0 yf1 hts
            obtain ⟨j0,j1,jz⟩:=ptc K3.out.loc
            have jf0:=jz 0
            have jf1:=jz 1
            clear jz
            have jA:=fun o=>(World.cell?_of_block (a:=⟨w.heap.size+1,0,none⟩) (Below.heap_alloc w3 o _ (Nat.lt_of_succ_le K3.out.lt))).trans j0
            skip
            refine hK.out _ _ trivial (fun _=>?_)
            clear hK K
            try simp only [Act.put,stT,stZ,stS]
            refine wpAnyH_ready (rs:=[4]) (by kernel_rfl) (by simp) ?_
            refine AllReadyH.cons rfl (fun K hK=>?_) AllReadyH.nil
            go_simp
            refine hK.out _ _ trivial (fun _=>?_)
            clear hK K
            try simp only [Act.put,stT,stZ,stS]
            refine wpAnyH_ready (rs:=[5]) (by kernel_rfl) (by simp) ?_
            refine AllReadyH.cons rfl (fun K hK=>?_) AllReadyH.nil
            refine step_append_lies _ (by rfl) _ _ 23 (by rfl) (w.heap.size+2) 68 i0 (.agg #[.int .i64 0,.string ⟨#[]⟩,.slice none 0 0,.slice none 0 0,.slice none 0 0]) 5 96 Tryz.underlying23 hi hz0 hz1 hz2 (by rfl) (by decide) _ (rowOf encOp D.ops).len xs1 (by rfl) (own_low K3.out.r1.own ((Below.refl _ _).alloc (Nat.le_refl _) _)) _ 1 1 [.int .i64 z0,.string z1,.slice A9 n9 k9,.slice B9 m9 l9,.slice C9 o9 q9] (by rfl) (by rfl) (fun j u hj=>World.news_of_block (heap_alloc_new _ _) j u hj) (by intro y hy;simp at hy;rcases hy with rfl|rfl|rfl|rfl|rfl<;>rfl) (by decide) (by unfold maxLen;rw [rowOf_len];omega) (by rw [rowOf_len];omega) (by have h1:=K3.out.lt;simp;omega) _ (by rfl) ?_
            intro gg cap2 w4 hown4 hgrow hat hlt4
            have HG4:=Hd hgrow
            have HO4:=Hd hown4
            have HT4:=Hd hat
            have HL4:=Hd (K3.out.grown hgrow K3.out.own1)
            clear hgrow hown4 hat j0 j1 jf0 jf1 jA
            obtain ⟨x0,x1,xz⟩:=ptc HL4.out.2.1
            have xf0:=xz 0
            have xf1:=xz 1
            clear xz
            refine hK.out _ _ trivial (fun _=>?_)
            clear hK K
            simp only [Act.put,List.setIfInBounds_toArray]
            refine wpAnyH_ready (rs:=[6]) (by kernel_rfl) (by simp) ?_
            refine AllReadyH.cons rfl (fun K hK=>?_) AllReadyH.nil
            go_simp
            refine hK.out _ _ trivial (fun _=>?_)
            clear hK K
            try simp only [Act.put,stT,stZ,stS]
            refine wpAnyH_ready (rs:=[7]) (by kernel_rfl) (by simp) ?_
            refine AllReadyH.cons rfl (fun K hK=>?_) AllReadyH.nil
            go_simp
            refine hK.out _ _ trivial (fun _=>?_)
            clear hK K
            try simp only [Act.put,stT,stZ,stS]
            refine wpAnyH_done (by kernel_rfl) ?_ _
            obtain ⟨P5,K5⟩:=DK.app1 (x:=a) KD.out M3.out TS3.out HO4.out HG4.out HT4.out
            have G5:=grown_keep HG4.out (r:=r) (fun b hb=>by have:=K3.out.own1 b hb;have:=K3.out.hr;omega)
            have hr9:=K3.out.hr
            have R5:=(G5.1 _ _ (R3.out.below (blw _ _))).set (b:=w.heap.size+1) (i:=0) (v:=(.slice (some ⟨gg,0,none⟩) ((rowOf encOp D.ops).len+1) cap2)) (by omega)
            have D5:=(G5.2 ((DD.out.moved M3.out).moved (Moved.of_below (blw _ _)))).set (b:=w.heap.size+1) (i:=0) (v:=(.slice (some ⟨gg,0,none⟩) ((rowOf encOp D.ops).len+1) cap2)) (by omega)
            have K6:=Hd K5
            have R6:=Hd R5
            have D6:=Hd D5
            clear K5 R5 D5 G5 x0 x1 xf0 xf1
            generalize w4.setCell ⟨w.heap.size+1,0,none⟩ (.slice (some ⟨gg,0,none⟩) ((rowOf encOp D.ops).len+1) cap2)=w5 at *
            go_wp2_with fail
            refine (ended_any r tq2 0 _ R6.out).mono ?_
            rintro e w6 ⟨rfl,rfl⟩
            have hE:=HE.out
            cases hem:tq2.isEmpty with
            | true =>
              rw [hem,if_pos rfl] at hE
              have HE2:=Hd hE
              have HM:=Hd (List.isEmpty_iff.1 hem)
              clear hE hem
              obtain ⟨x0,x1,xz⟩:=ptc K6.out.loc
              have xf0:=xz 0
              have xf1:=xz 1
              clear xz
              obtain ⟨u0,u1,uz⟩:=ptc K6.out.res
              have uf0:=uz 0
              have uf1:=uz 1
              clear uz
              go_wp2_with fail
              have f1:=setAll_row (b:=w.heap.size) (t:=26) (ys:=[.slice none 0 0,.slice none 0 0]) (xs:=[(.slice (some ⟨gg,0,none⟩) ((rowOf encOp D.ops).len+1) cap2),.slice A2 (rowOf encF D.frags).len c2]) rfl K6.out.res
              have f2:=R6.out.setAll (b:=w.heap.size) K6.out.hr [(.slice (some ⟨gg,0,none⟩) ((rowOf encOp D.ops).len+1) cap2),.slice A2 (rowOf encF D.frags).len c2] 0
              have f3:=Moved.setAll (r:=r) (b:=w.heap.size) (Nat.le_refl _) [(.slice (some ⟨gg,0,none⟩) ((rowOf encOp D.ops).len+1) cap2),.slice A2 (rowOf encF D.frags).len c2] 0 _ K6.out.mv
              have FT:=(K6.out.tree (by simp only [List.length_append,List.length_singleton];omega) (by dsimp only;omega)).fin (w:=w) (Nat.le_succ _) [(.slice (some ⟨gg,0,none⟩) ((rowOf encOp D.ops).len+1) cap2),.slice A2 (rowOf encF D.frags).len c2]
              rw [HM.out] at f2
              have FP:=HQ.out _ _ (post_ok (a:=(⟨D.ops++[a],D.frags⟩:DocT)) (docRr_ok HE2.out.symm) ⟨[(.slice (some ⟨gg,0,none⟩) ((rowOf encOp D.ops).len+1) cap2),.slice A2 (rowOf encF D.frags).len c2],rfl,FT⟩ f2 f3)
              exact ret_st rfl rfl rfl f1 Tryz.underlying26 ⟨_,rfl⟩ (by kernel_rfl) FP
            | false =>
              rw [hem] at hE
              simp only [Bool.false_eq_true,if_false] at hE
              have HE2:=Hd hE
              clear hE hem
              go_wp2_with fail
              go_roundg g
              case measure=>omega
              case rel=>exact ⟨(⟨D.ops++[a],D.frags⟩:DocT),tq2,_,_,_,_,_,_,_,_,by omega,by simp only [List.length_append,List.length_singleton];omega,vaside ⟨K6.out,R6.out,D6.out,G3.out,HE2.out⟩⟩
          refine AllReadyH.cons rfl (fun K hK=>?_) AllReadyH.nil
          go_simp
          go_at_call 98
          refine (op_any 0 0 tq.tail r _ G2.out (Nat.zero_le _) RD.out DD.out).mono ?_
          intro e w3 h
          rw [HV.out] at h
          obtain ⟨⟨v,rfl,hl⟩,r3,m3⟩:=of_ok h
          obtain ⟨z0,z1,A9,n9,k9,B9,m9,l9,C9,o9,q9,rfl,hts⟩:=op_open hl
          have TS3:=Hd (hts)
          have R3:=Hd r3
          have M3:=Hd m3
          have K3:=Hd (KD.out.next m3)
          clear h hl r3 m3 y0 y1 yf0 yf1 hts
          obtain ⟨j0,j1,jz⟩:=ptc K3.out.loc
          have jf0:=jz 0
          have jf1:=jz 1
          clear jz
          have jA:=fun o=>(World.cell?_of_block (a:=⟨w.heap.size+1,0,none⟩) (Below.heap_alloc w3 o _ (Nat.lt_of_succ_le K3.out.lt))).trans j0
          skip
          refine hK.out _ _ trivial (fun _=>?_)
          clear hK K
          try simp only [Act.put,stT,stZ,stS]
          refine wpAnyH_ready (rs:=[1,4]) (by kernel_rfl) (by simp) ?_
          refine AllReadyH.cons rfl (fun K hK=>?_) ?_
          · skip
            go_simp
            refine hK.out _ _ trivial (fun _=>?_)
            clear hK K
            try simp only [Act.put,stT,stZ,stS]
            refine wpAnyH_ready (rs:=[4]) (by kernel_rfl) (by simp) ?_
            refine AllReadyH.cons rfl (fun K hK=>?_) AllReadyH.nil
            go_simp
            refine hK.out _ _ trivial (fun _=>?_)
            clear hK K
            try simp only [Act.put,stT,stZ,stS]
            refine wpAnyH_ready (rs:=[5]) (by kernel_rfl) (by simp) ?_
            refine AllReadyH.cons rfl (fun K hK=>?_) AllReadyH.nil
            refine step_append_lies _ (by rfl) _ _ 23 (by rfl) (w.heap.size+2) 68 i0 (.agg #[.int .i64 0,.string ⟨#[]⟩,.slice none 0 0,.slice none 0 0,.slice none 0 0]) 5 96 Tryz.underlying23 hi hz0 hz1 hz2 (by rfl) (by decide) _ (rowOf encOp D.ops).len xs1 (by rfl) (own_low K3.out.r1.own ((Below.refl _ _).alloc (Nat.le_refl _) _)) _ 1 1 [.int .i64 z0,.string z1,.slice A9 n9 k9,.slice B9 m9 l9,.slice C9 o9 q9] (by rfl) (by rfl) (fun j u hj=>World.news_of_block (heap_alloc_new _ _) j u hj) (by intro y hy;simp at hy;rcases hy with rfl|rfl|rfl|rfl|rfl<;>rfl) (by decide) (by unfold maxLen;rw [rowOf_len];omega) (by rw [rowOf_len];omega) (by have h1:=K3.out.lt;simp;omega) _ (by rfl) ?_
            intro gg cap2 w4 hown4 hgrow hat hlt4
            have HG4:=Hd hgrow
            have HO4:=Hd hown4
            have HT4:=Hd hat
            have HL4:=Hd (K3.out.grown hgrow K3.out.own1)
            clear hgrow hown4 hat j0 j1 jf0 jf1 jA
            obtain ⟨x0,x1,xz⟩:=ptc HL4.out.2.1
            have xf0:=xz 0
            have xf1:=xz 1
            clear xz
            refine hK.out _ _ trivial (fun _=>?_)
            clear hK K
            simp only [Act.put,List.setIfInBounds_toArray]
            refine wpAnyH_ready (rs:=[6]) (by kernel_rfl) (by simp) ?_
            refine AllReadyH.cons rfl (fun K hK=>?_) AllReadyH.nil
            go_simp
            refine hK.out _ _ trivial (fun _=>?_)
            clear hK K
            try simp only [Act.put,stT,stZ,stS]
            refine wpAnyH_ready (rs:=[7]) (by kernel_rfl) (by simp) ?_
            refine AllReadyH.cons rfl (fun K hK=>?_) AllReadyH.nil
            go_simp
            refine hK.out _ _ trivial (fun _=>?_)
            clear hK K
            try simp only [Act.put,stT,stZ,stS]
            refine wpAnyH_done (by kernel_rfl) ?_ _
            obtain ⟨P5,K5⟩:=DK.app1 (x:=a) KD.out M3.out TS3.out HO4.out HG4.out HT4.out
            have G5:=grown_keep HG4.out (r:=r) (fun b hb=>by have:=K3.out.own1 b hb;have:=K3.out.hr;omega)
            have hr9:=K3.out.hr
            have R5:=(G5.1 _ _ (R3.out.below (blw _ _))).set (b:=w.heap.size+1) (i:=0) (v:=(.slice (some ⟨gg,0,none⟩) ((rowOf encOp D.ops).len+1) cap2)) (by omega)
            have D5:=(G5.2 ((DD.out.moved M3.out).moved (Moved.of_below (blw _ _)))).set (b:=w.heap.size+1) (i:=0) (v:=(.slice (some ⟨gg,0,none⟩) ((rowOf encOp D.ops).len+1) cap2)) (by omega)
            have K6:=Hd K5
            have R6:=Hd R5
            have D6:=Hd D5
            clear K5 R5 D5 G5 x0 x1 xf0 xf1
            generalize w4.setCell ⟨w.heap.size+1,0,none⟩ (.slice (some ⟨gg,0,none⟩) ((rowOf encOp D.ops).len+1) cap2)=w5 at *
            go_wp2_with fail
            refine (ended_any r tq2 0 _ R6.out).mono ?_
            rintro e w6 ⟨rfl,rfl⟩
            have hE:=HE.out
            cases hem:tq2.isEmpty with
            | true =>
              rw [hem,if_pos rfl] at hE
              have HE2:=Hd hE
              have HM:=Hd (List.isEmpty_iff.1 hem)
              clear hE hem
              obtain ⟨x0,x1,xz⟩:=ptc K6.out.loc
              have xf0:=xz 0
              have xf1:=xz 1
              clear xz
              obtain ⟨u0,u1,uz⟩:=ptc K6.out.res
              have uf0:=uz 0
              have uf1:=uz 1
              clear uz
              go_wp2_with fail
              have f1:=setAll_row (b:=w.heap.size) (t:=26) (ys:=[.slice none 0 0,.slice none 0 0]) (xs:=[(.slice (some ⟨gg,0,none⟩) ((rowOf encOp D.ops).len+1) cap2),.slice A2 (rowOf encF D.frags).len c2]) rfl K6.out.res
              have f2:=R6.out.setAll (b:=w.heap.size) K6.out.hr [(.slice (some ⟨gg,0,none⟩) ((rowOf encOp D.ops).len+1) cap2),.slice A2 (rowOf encF D.frags).len c2] 0
              have f3:=Moved.setAll (r:=r) (b:=w.heap.size) (Nat.le_refl _) [(.slice (some ⟨gg,0,none⟩) ((rowOf encOp D.ops).len+1) cap2),.slice A2 (rowOf encF D.frags).len c2] 0 _ K6.out.mv
              have FT:=(K6.out.tree (by simp only [List.length_append,List.length_singleton];omega) (by dsimp only;omega)).fin (w:=w) (Nat.le_succ _) [(.slice (some ⟨gg,0,none⟩) ((rowOf encOp D.ops).len+1) cap2),.slice A2 (rowOf encF D.frags).len c2]
              rw [HM.out] at f2
              have FP:=HQ.out _ _ (post_ok (a:=(⟨D.ops++[a],D.frags⟩:DocT)) (docRr_ok HE2.out.symm) ⟨[(.slice (some ⟨gg,0,none⟩) ((rowOf encOp D.ops).len+1) cap2),.slice A2 (rowOf encF D.frags).len c2],rfl,FT⟩ f2 f3)
              exact ret_st rfl rfl rfl f1 Tryz.underlying26 ⟨_,rfl⟩ (by kernel_rfl) FP
            | false =>
              rw [hem] at hE
              simp only [Bool.false_eq_true,if_false] at hE
              have HE2:=Hd hE
              clear hE hem
              go_wp2_with fail
              go_roundg g
              case measure=>omega
              case rel=>exact ⟨(⟨D.ops++[a],D.frags⟩:DocT),tq2,_,_,_,_,_,_,_,_,by omega,by simp only [List.length_append,List.length_singleton];omega,vaside ⟨K6.out,R6.out,D6.out,G3.out,HE2.out⟩⟩
          refine AllReadyH.cons rfl (fun K hK=>?_) AllReadyH.nil
          go_simp
          refine hK.out _ _ trivial (fun _=>?_)
          clear hK K
          try simp only [Act.put,stT,stZ,stS]
          refine wpAnyH_ready (rs:=[1]) (by kernel_rfl) (by simp) ?_
          refine AllReadyH.cons rfl (fun K hK=>?_) AllReadyH.nil
          go_simp
          refine hK.out _ _ trivial (fun _=>?_)
          clear hK K
          try simp only [Act.put,stT,stZ,stS]
          refine wpAnyH_ready (rs:=[5]) (by kernel_rfl) (by simp) ?_
          refine AllReadyH.cons rfl (fun K hK=>?_) AllReadyH.nil
          refine step_append_lies _ (by rfl) _ _ 23 (by rfl) (w.heap.size+2) 68 i0 (.agg #[.int .i64 0,.string ⟨#[]⟩,.slice none 0 0,.slice none 0 0,.slice none 0 0]) 5 96 Tryz.underlying23 hi hz0 hz1 hz2 (by rfl) (by decide) _ (rowOf encOp D.ops).len xs1 (by rfl) (own_low K3.out.r1.own ((Below.refl _ _).alloc (Nat.le_refl _) _)) _ 1 1 [.int .i64 z0,.string z1,.slice A9 n9 k9,.slice B9 m9 l9,.slice C9 o9 q9] (by rfl) (by rfl) (fun j u hj=>World.news_of_block (heap_alloc_new _ _) j u hj) (by intro y hy;simp at hy;rcases hy with rfl|rfl|rfl|rfl|rfl<;>rfl) (by decide) (by unfold maxLen;rw [rowOf_len];omega) (by rw [rowOf_len];omega) (by have h1:=K3.out.lt;simp;omega) _ (by rfl) ?_
          intro gg cap2 w4 hown4 hgrow hat hlt4
          have HG4:=Hd hgrow
          have HO4:=Hd hown4
          have HT4:=Hd hat
          have HL4:=Hd (K3.out.grown hgrow K3.out.own1)
          clear hgrow hown4 hat j0 j1 jf0 jf1 jA
          obtain ⟨x0,x1,xz⟩:=ptc HL4.out.2.1
          have xf0:=xz 0
          have xf1:=xz 1
          clear xz
          refine hK.out _ _ trivial (fun _=>?_)
          clear hK K
          simp only [Act.put,List.setIfInBounds_toArray]
          refine wpAnyH_ready (rs:=[6]) (by kernel_rfl) (by simp) ?_
          refine AllReadyH.cons rfl (fun K hK=>?_) AllReadyH.nil
          go_simp
          refine hK.out _ _ trivial (fun _=>?_)
          clear hK K
          try simp only [Act.put,stT,stZ,stS]
          refine wpAnyH_ready (rs:=[7]) (by kernel_rfl) (by simp) ?_
          refine AllReadyH.cons rfl (fun K hK=>?_) AllReadyH.nil
          go_simp
          refine hK.out _ _ trivial (fun _=>?_)
          clear hK K
          try simp only [Act.put,stT,stZ,stS]
          refine wpAnyH_done (by kernel_rfl) ?_ _
          obtain ⟨P5,K5⟩:=DK.app1 (x:=a) KD.out M3.out TS3.out HO4.out HG4.out HT4.out
          have G5:=grown_keep HG4.out (r:=r) (fun b hb=>by have:=K3.out.own1 b hb;have:=K3.out.hr;omega)
          have hr9:=K3.out.hr
          have R5:=(G5.1 _ _ (R3.out.below (blw _ _))).set (b:=w.heap.size+1) (i:=0) (v:=(.slice (some ⟨gg,0,none⟩) ((rowOf encOp D.ops).len+1) cap2)) (by omega)
          have D5:=(G5.2 ((DD.out.moved M3.out).moved (Moved.of_below (blw _ _)))).set (b:=w.heap.size+1) (i:=0) (v:=(.slice (some ⟨gg,0,none⟩) ((rowOf encOp D.ops).len+1) cap2)) (by omega)
          have K6:=Hd K5
          have R6:=Hd R5
          have D6:=Hd D5
          clear K5 R5 D5 G5 x0 x1 xf0 xf1
          generalize w4.setCell ⟨w.heap.size+1,0,none⟩ (.slice (some ⟨gg,0,none⟩) ((rowOf encOp D.ops).len+1) cap2)=w5 at *
          go_wp2_with fail
          refine (ended_any r tq2 0 _ R6.out).mono ?_
          rintro e w6 ⟨rfl,rfl⟩
          have hE:=HE.out
          cases hem:tq2.isEmpty with
          | true =>
            rw [hem,if_pos rfl] at hE
            have HE2:=Hd hE
            have HM:=Hd (List.isEmpty_iff.1 hem)
            clear hE hem
            obtain ⟨x0,x1,xz⟩:=ptc K6.out.loc
            have xf0:=xz 0
            have xf1:=xz 1
            clear xz
            obtain ⟨u0,u1,uz⟩:=ptc K6.out.res
            have uf0:=uz 0
            have uf1:=uz 1
            clear uz
            go_wp2_with fail
            have f1:=setAll_row (b:=w.heap.size) (t:=26) (ys:=[.slice none 0 0,.slice none 0 0]) (xs:=[(.slice (some ⟨gg,0,none⟩) ((rowOf encOp D.ops).len+1) cap2),.slice A2 (rowOf encF D.frags).len c2]) rfl K6.out.res
            have f2:=R6.out.setAll (b:=w.heap.size) K6.out.hr [(.slice (some ⟨gg,0,none⟩) ((rowOf encOp D.ops).len+1) cap2),.slice A2 (rowOf encF D.frags).len c2] 0
            have f3:=Moved.setAll (r:=r) (b:=w.heap.size) (Nat.le_refl _) [(.slice (some ⟨gg,0,none⟩) ((rowOf encOp D.ops).len+1) cap2),.slice A2 (rowOf encF D.frags).len c2] 0 _ K6.out.mv
            have FT:=(K6.out.tree (by simp only [List.length_append,List.length_singleton];omega) (by dsimp only;omega)).fin (w:=w) (Nat.le_succ _) [(.slice (some ⟨gg,0,none⟩) ((rowOf encOp D.ops).len+1) cap2),.slice A2 (rowOf encF D.frags).len c2]
            rw [HM.out] at f2
            have FP:=HQ.out _ _ (post_ok (a:=(⟨D.ops++[a],D.frags⟩:DocT)) (docRr_ok HE2.out.symm) ⟨[(.slice (some ⟨gg,0,none⟩) ((rowOf encOp D.ops).len+1) cap2),.slice A2 (rowOf encF D.frags).len c2],rfl,FT⟩ f2 f3)
            exact ret_st rfl rfl rfl f1 Tryz.underlying26 ⟨_,rfl⟩ (by kernel_rfl) FP
          | false =>
            rw [hem] at hE
            simp only [Bool.false_eq_true,if_false] at hE
            have HE2:=Hd hE
            clear hE hem
            go_wp2_with fail
            go_roundg g
            case measure=>omega
            case rel=>exact ⟨(⟨D.ops++[a],D.frags⟩:DocT),tq2,_,_,_,_,_,_,_,_,by omega,by simp only [List.length_append,List.length_singleton];omega,vaside ⟨K6.out,R6.out,D6.out,G3.out,HE2.out⟩⟩
      | false =>
        rw [hb2] at h
        obtain ⟨rfl,rr,mm⟩:=h
        rw [skip_no hb2] at rr
        have K0n:=Hd (KX.out.next mm)
        have R0n:=Hd rr
        have D0n:=Hd (DX.out.moved mm)
        clear rr mm
        go_wp2_with fail
        refine (skip_any r tq 0 2 mutB _ R0n.out).mono ?_
        intro e wk1 h
        cases hb3:atB 2 mutB tq with
        | true =>
          rw [hb3] at h
          obtain ⟨rfl,rr,mm⟩:=h
          rw [skip_yes hb3] at rr
          have K2:=Hd (K0n.out.next mm)
          have R2:=Hd rr
          have D2:=Hd (D0n.out.moved mm)
          have hlt1:=(at_sfx hb3).2
          have G2:=Hd (G2.out.sub (at_sfx hb3).1)
          clear rr mm
          have KD:=Hd (K2.out.next (Moved.of_below (Below.drew (Below.refl _ _))))
          have RD:=Hd (R2.out.below (Below.drew (Below.refl _ _)))
          have DD:=Hd (D2.out.moved (Moved.of_below (r:=r) (Below.drew (Below.refl _ _))))
          obtain ⟨y0,y1,yz⟩:=ptc KD.out.loc
          have yf0:=yz 0
          have yf1:=yz 1
          clear yz
          go_wp2_with fail
          cases hv:opR 1 0 tq.tail with
          | error x =>
            have HE:=Hd (show docR ts=.error x by rw [← EX.out,docF,defR];simp only [hb1,hb2,hb3,hv,if_true,if_false,Bool.false_eq_true])
            refine wp_region_held_drew (S:=fun _=>True) (by kernel_rfl) trivial (fun _=>?_)
            refine wpAnyH_take (i:=0) (v:=?_) rfl (by kernel_rfl) (by kernel_rfl) (by kernel_rfl) (fun _ _ _ h=>h) (Or.inl ⟨by rfl,?_⟩) trivial ?_
            rotate_left
            · (intro w _;go_simp;try with_reducible rfl)
            simp only [Act.put,List.setIfInBounds_toArray]
            refine wpAnyH_take (i:=2) (v:=?_) rfl (by kernel_rfl) (by kernel_rfl) (by kernel_rfl) (fun _ _ _ h=>h) (Or.inl ⟨by rfl,?_⟩) trivial ?_
            rotate_left
            · (intro w _;go_simp;try with_reducible rfl)
            simp only [Act.put]
            refine wpAnyH_ready (rs:=[1,3]) (by kernel_rfl) (by simp) ?_
            refine AllReadyH.cons rfl (fun K hK=>?_) ?_
            · skip
              go_simp
              refine hK.out _ _ trivial (fun _=>?_)
              clear hK K
              try simp only [Act.put,stT,stZ,stS]
              refine wpAnyH_ready (rs:=[3]) (by kernel_rfl) (by simp) ?_
              refine AllReadyH.cons rfl (fun K hK=>?_) AllReadyH.nil
              go_simp
              go_at_call 98
              refine (op_any 1 0 tq.tail r _ G2.out (Nat.zero_le _) RD.out DD.out).mono ?_
              intro e w3 h
              rw [hv] at h
              obtain ⟨rfl,m3⟩:=of_err h
              exact ⟨rfl,HQ.out _ _ (per (docRr_err HE.out) (KD.out.mv.trans m3))⟩
            refine AllReadyH.cons rfl (fun K hK=>?_) AllReadyH.nil
            go_simp
            go_at_call 98
            refine (op_any 1 0 tq.tail r _ G2.out (Nat.zero_le _) RD.out DD.out).mono ?_
            intro e w3 h
            rw [hv] at h
            obtain ⟨rfl,m3⟩:=of_err h
            exact ⟨rfl,HQ.out _ _ (per (docRr_err HE.out) (KD.out.mv.trans m3))⟩
          | ok p =>
            obtain ⟨a,tq2⟩:=p
            have hlt2:=(op_sfx hv).2
            have G3:=Hd (G2.out.sub (op_sfx hv).1)
            have HE:=Hd (show (if tq2.isEmpty=true then .ok (⟨D.ops++[a],D.frags⟩:DocT) else docF g (⟨D.ops++[a],D.frags⟩:DocT) tq2)=docR ts by rw [← EX.out,docF,defR];simp only [hb1,hb2,hb3,hv,if_true,if_false,Bool.false_eq_true])
            have HV:=Hd hv
            clear hv
            refine wp_region_held_drew (S:=fun _=>True) (by kernel_rfl) trivial (fun _=>?_)
            refine wpAnyH_take (i:=0) (v:=?_) rfl (by kernel_rfl) (by kernel_rfl) (by kernel_rfl) (fun _ _ _ h=>h) (Or.inl ⟨by rfl,?_⟩) trivial ?_
            rotate_left
            · (intro w _;go_simp;try with_reducible rfl)
            simp only [Act.put,List.setIfInBounds_toArray]
            refine wpAnyH_take (i:=2) (v:=?_) rfl (by kernel_rfl) (by kernel_rfl) (by kernel_rfl) (fun _ _ _ h=>h) (Or.inl ⟨by rfl,?_⟩) trivial ?_
            rotate_left
            · (intro w _;go_simp;try with_reducible rfl)
            simp only [Act.put]
            refine wpAnyH_ready (rs:=[1,3]) (by kernel_rfl) (by simp) ?_
            refine AllReadyH.cons rfl (fun K hK=>?_) ?_
            · skip
              go_simp
              refine hK.out _ _ trivial (fun _=>?_)
              clear hK K
              try simp only [Act.put,stT,stZ,stS]
              refine wpAnyH_ready (rs:=[3]) (by kernel_rfl) (by simp) ?_
              refine AllReadyH.cons rfl (fun K hK=>?_) AllReadyH.nil
              go_simp
              go_at_call 98
              refine (op_any 1 0 tq.tail r _ G2.out (Nat.zero_le _) RD.out DD.out).mono ?_
              intro e w3 h
              rw [HV.out] at h
              obtain ⟨⟨v,rfl,hl⟩,r3,m3⟩:=of_ok h
              obtain ⟨z0,z1,A9,n9,k9,B9,m9,l9,C9,o9,q9,rfl,hts⟩:=op_open hl
              have TS3:=Hd (hts)
              have R3:=Hd r3
              have M3:=Hd m3
              have K3:=Hd (KD.out.next m3)
              clear h hl r3 m3 y0 y1 yf0 yf1 hts
              obtain ⟨j0,j1,jz⟩:=ptc K3.out.loc
              have jf0:=jz 0
              have jf1:=jz 1
              clear jz
              have jA:=fun o=>(World.cell?_of_block (a:=⟨w.heap.size+1,0,none⟩) (Below.heap_alloc w3 o _ (Nat.lt_of_succ_le K3.out.lt))).trans j0
              skip
              refine hK.out _ _ trivial (fun _=>?_)
              clear hK K
              try simp only [Act.put,stT,stZ,stS]
              refine wpAnyH_ready (rs:=[4]) (by kernel_rfl) (by simp) ?_
              refine AllReadyH.cons rfl (fun K hK=>?_) AllReadyH.nil
              go_simp
              refine hK.out _ _ trivial (fun _=>?_)
              clear hK K
              try simp only [Act.put,stT,stZ,stS]
              refine wpAnyH_ready (rs:=[5]) (by kernel_rfl) (by simp) ?_
              refine AllReadyH.cons rfl (fun K hK=>?_) AllReadyH.nil
              refine step_append_lies _ (by rfl) _ _ 23 (by rfl) (w.heap.size+2) 68 i0 (.agg #[.int .i64 0,.string ⟨#[]⟩,.slice none 0 0,.slice none 0 0,.slice none 0 0]) 5 96 Tryz.underlying23 hi hz0 hz1 hz2 (by rfl) (by decide) _ (rowOf encOp D.ops).len xs1 (by rfl) (own_low K3.out.r1.own ((Below.refl _ _).alloc (Nat.le_refl _) _)) _ 1 1 [.int .i64 z0,.string z1,.slice A9 n9 k9,.slice B9 m9 l9,.slice C9 o9 q9] (by rfl) (by rfl) (fun j u hj=>World.news_of_block (heap_alloc_new _ _) j u hj) (by intro y hy;simp at hy;rcases hy with rfl|rfl|rfl|rfl|rfl<;>rfl) (by decide) (by unfold maxLen;rw [rowOf_len];omega) (by rw [rowOf_len];omega) (by have h1:=K3.out.lt;simp;omega) _ (by rfl) ?_
              intro gg cap2 w4 hown4 hgrow hat hlt4
              have HG4:=Hd hgrow
              have HO4:=Hd hown4
              have HT4:=Hd hat
              have HL4:=Hd (K3.out.grown hgrow K3.out.own1)
              clear hgrow hown4 hat j0 j1 jf0 jf1 jA
              obtain ⟨x0,x1,xz⟩:=ptc HL4.out.2.1
              have xf0:=xz 0
              have xf1:=xz 1
              clear xz
              refine hK.out _ _ trivial (fun _=>?_)
              clear hK K
              simp only [Act.put,List.setIfInBounds_toArray]
              refine wpAnyH_ready (rs:=[6]) (by kernel_rfl) (by simp) ?_
              refine AllReadyH.cons rfl (fun K hK=>?_) AllReadyH.nil
              go_simp
              refine hK.out _ _ trivial (fun _=>?_)
              clear hK K
              try simp only [Act.put,stT,stZ,stS]
              refine wpAnyH_ready (rs:=[7]) (by kernel_rfl) (by simp) ?_
              refine AllReadyH.cons rfl (fun K hK=>?_) AllReadyH.nil
              go_simp
              refine hK.out _ _ trivial (fun _=>?_)
              clear hK K
              try simp only [Act.put,stT,stZ,stS]
              refine wpAnyH_done (by kernel_rfl) ?_ _
              obtain ⟨P5,K5⟩:=DK.app1 (x:=a) KD.out M3.out TS3.out HO4.out HG4.out HT4.out
              have G5:=grown_keep HG4.out (r:=r) (fun b hb=>by have:=K3.out.own1 b hb;have:=K3.out.hr;omega)
              have hr9:=K3.out.hr
              have R5:=(G5.1 _ _ (R3.out.below (blw _ _))).set (b:=w.heap.size+1) (i:=0) (v:=(.slice (some ⟨gg,0,none⟩) ((rowOf encOp D.ops).len+1) cap2)) (by omega)
              have D5:=(G5.2 ((DD.out.moved M3.out).moved (Moved.of_below (blw _ _)))).set (b:=w.heap.size+1) (i:=0) (v:=(.slice (some ⟨gg,0,none⟩) ((rowOf encOp D.ops).len+1) cap2)) (by omega)
              have K6:=Hd K5
              have R6:=Hd R5
              have D6:=Hd D5
              clear K5 R5 D5 G5 x0 x1 xf0 xf1
              generalize w4.setCell ⟨w.heap.size+1,0,none⟩ (.slice (some ⟨gg,0,none⟩) ((rowOf encOp D.ops).len+1) cap2)=w5 at *
              go_wp2_with fail
              refine (ended_any r tq2 0 _ R6.out).mono ?_
              rintro e w6 ⟨rfl,rfl⟩
              have hE:=HE.out
              cases hem:tq2.isEmpty with
              | true =>
                rw [hem,if_pos rfl] at hE
                have HE2:=Hd hE
                have HM:=Hd (List.isEmpty_iff.1 hem)
                clear hE hem
                obtain ⟨x0,x1,xz⟩:=ptc K6.out.loc
                have xf0:=xz 0
                have xf1:=xz 1
                clear xz
                obtain ⟨u0,u1,uz⟩:=ptc K6.out.res
                have uf0:=uz 0
                have uf1:=uz 1
                clear uz
                go_wp2_with fail
                have f1:=setAll_row (b:=w.heap.size) (t:=26) (ys:=[.slice none 0 0,.slice none 0 0]) (xs:=[(.slice (some ⟨gg,0,none⟩) ((rowOf encOp D.ops).len+1) cap2),.slice A2 (rowOf encF D.frags).len c2]) rfl K6.out.res
                have f2:=R6.out.setAll (b:=w.heap.size) K6.out.hr [(.slice (some ⟨gg,0,none⟩) ((rowOf encOp D.ops).len+1) cap2),.slice A2 (rowOf encF D.frags).len c2] 0
                have f3:=Moved.setAll (r:=r) (b:=w.heap.size) (Nat.le_refl _) [(.slice (some ⟨gg,0,none⟩) ((rowOf encOp D.ops).len+1) cap2),.slice A2 (rowOf encF D.frags).len c2] 0 _ K6.out.mv
                have FT:=(K6.out.tree (by simp only [List.length_append,List.length_singleton];omega) (by dsimp only;omega)).fin (w:=w) (Nat.le_succ _) [(.slice (some ⟨gg,0,none⟩) ((rowOf encOp D.ops).len+1) cap2),.slice A2 (rowOf encF D.frags).len c2]
                rw [HM.out] at f2
                have FP:=HQ.out _ _ (post_ok (a:=(⟨D.ops++[a],D.frags⟩:DocT)) (docRr_ok HE2.out.symm) ⟨[(.slice (some ⟨gg,0,none⟩) ((rowOf encOp D.ops).len+1) cap2),.slice A2 (rowOf encF D.frags).len c2],rfl,FT⟩ f2 f3)
                exact ret_st rfl rfl rfl f1 Tryz.underlying26 ⟨_,rfl⟩ (by kernel_rfl) FP
              | false =>
                rw [hem] at hE
                simp only [Bool.false_eq_true,if_false] at hE
                have HE2:=Hd hE
                clear hE hem
                go_wp2_with fail
                go_roundg g
                case measure=>omega
                case rel=>exact ⟨(⟨D.ops++[a],D.frags⟩:DocT),tq2,_,_,_,_,_,_,_,_,by omega,by simp only [List.length_append,List.length_singleton];omega,vaside ⟨K6.out,R6.out,D6.out,G3.out,HE2.out⟩⟩
            refine AllReadyH.cons rfl (fun K hK=>?_) AllReadyH.nil
            go_simp
            go_at_call 98
            refine (op_any 1 0 tq.tail r _ G2.out (Nat.zero_le _) RD.out DD.out).mono ?_
            intro e w3 h
            rw [HV.out] at h
            obtain ⟨⟨v,rfl,hl⟩,r3,m3⟩:=of_ok h
            obtain ⟨z0,z1,A9,n9,k9,B9,m9,l9,C9,o9,q9,rfl,hts⟩:=op_open hl
            have TS3:=Hd (hts)
            have R3:=Hd r3
            have M3:=Hd m3
            have K3:=Hd (KD.out.next m3)
            clear h hl r3 m3 y0 y1 yf0 yf1 hts
            obtain ⟨j0,j1,jz⟩:=ptc K3.out.loc
            have jf0:=jz 0
            have jf1:=jz 1
            clear jz
            have jA:=fun o=>(World.cell?_of_block (a:=⟨w.heap.size+1,0,none⟩) (Below.heap_alloc w3 o _ (Nat.lt_of_succ_le K3.out.lt))).trans j0
            skip
            refine hK.out _ _ trivial (fun _=>?_)
            clear hK K
            try simp only [Act.put,stT,stZ,stS]
            refine wpAnyH_ready (rs:=[1,4]) (by kernel_rfl) (by simp) ?_
            refine AllReadyH.cons rfl (fun K hK=>?_) ?_
            · skip
              go_simp
              refine hK.out _ _ trivial (fun _=>?_)
              clear hK K
              try simp only [Act.put,stT,stZ,stS]
              refine wpAnyH_ready (rs:=[4]) (by kernel_rfl) (by simp) ?_
              refine AllReadyH.cons rfl (fun K hK=>?_) AllReadyH.nil
              go_simp
              refine hK.out _ _ trivial (fun _=>?_)
              clear hK K
              try simp only [Act.put,stT,stZ,stS]
              refine wpAnyH_ready (rs:=[5]) (by kernel_rfl) (by simp) ?_
              refine AllReadyH.cons rfl (fun K hK=>?_) AllReadyH.nil
              refine step_append_lies _ (by rfl) _ _ 23 (by rfl) (w.heap.size+2) 68 i0 (.agg #[.int .i64 0,.string ⟨#[]⟩,.slice none 0 0,.slice none 0 0,.slice none 0 0]) 5 96 Tryz.underlying23 hi hz0 hz1 hz2 (by rfl) (by decide) _ (rowOf encOp D.ops).len xs1 (by rfl) (own_low K3.out.r1.own ((Below.refl _ _).alloc (Nat.le_refl _) _)) _ 1 1 [.int .i64 z0,.string z1,.slice A9 n9 k9,.slice B9 m9 l9,.slice C9 o9 q9] (by rfl) (by rfl) (fun j u hj=>World.news_of_block (heap_alloc_new _ _) j u hj) (by intro y hy;simp at hy;rcases hy with rfl|rfl|rfl|rfl|rfl<;>rfl) (by decide) (by unfold maxLen;rw [rowOf_len];omega) (by rw [rowOf_len];omega) (by have h1:=K3.out.lt;simp;omega) _ (by rfl) ?_
              intro gg cap2 w4 hown4 hgrow hat hlt4
              have HG4:=Hd hgrow
              have HO4:=Hd hown4
              have HT4:=Hd hat
              have HL4:=Hd (K3.out.grown hgrow K3.out.own1)
              clear hgrow hown4 hat j0 j1 jf0 jf1 jA
              obtain ⟨x0,x1,xz⟩:=ptc HL4.out.2.1
              have xf0:=xz 0
              have xf1:=xz 1
              clear xz
              refine hK.out _ _ trivial (fun _=>?_)
              clear hK K
              simp only [Act.put,List.setIfInBounds_toArray]
              refine wpAnyH_ready (rs:=[6]) (by kernel_rfl) (by simp) ?_
              refine AllReadyH.cons rfl (fun K hK=>?_) AllReadyH.nil
              go_simp
              refine hK.out _ _ trivial (fun _=>?_)
              clear hK K
              try simp only [Act.put,stT,stZ,stS]
              refine wpAnyH_ready (rs:=[7]) (by kernel_rfl) (by simp) ?_
              refine AllReadyH.cons rfl (fun K hK=>?_) AllReadyH.nil
              go_simp
              refine hK.out _ _ trivial (fun _=>?_)
              clear hK K
              try simp only [Act.put,stT,stZ,stS]
              refine wpAnyH_done (by kernel_rfl) ?_ _
              obtain ⟨P5,K5⟩:=DK.app1 (x:=a) KD.out M3.out TS3.out HO4.out HG4.out HT4.out
              have G5:=grown_keep HG4.out (r:=r) (fun b hb=>by have:=K3.out.own1 b hb;have:=K3.out.hr;omega)
              have hr9:=K3.out.hr
              have R5:=(G5.1 _ _ (R3.out.below (blw _ _))).set (b:=w.heap.size+1) (i:=0) (v:=(.slice (some ⟨gg,0,none⟩) ((rowOf encOp D.ops).len+1) cap2)) (by omega)
              have D5:=(G5.2 ((DD.out.moved M3.out).moved (Moved.of_below (blw _ _)))).set (b:=w.heap.size+1) (i:=0) (v:=(.slice (some ⟨gg,0,none⟩) ((rowOf encOp D.ops).len+1) cap2)) (by omega)
              have K6:=Hd K5
              have R6:=Hd R5
              have D6:=Hd D5
              clear K5 R5 D5 G5 x0 x1 xf0 xf1
              generalize w4.setCell ⟨w.heap.size+1,0,none⟩ (.slice (some ⟨gg,0,none⟩) ((rowOf encOp D.ops).len+1) cap2)=w5 at *
              go_wp2_with fail
              refine (ended_any r tq2 0 _ R6.out).mono ?_
              rintro e w6 ⟨rfl,rfl⟩
              have hE:=HE.out
              cases hem:tq2.isEmpty with
              | true =>
                rw [hem,if_pos rfl] at hE
                have HE2:=Hd hE
                have HM:=Hd (List.isEmpty_iff.1 hem)
                clear hE hem
                obtain ⟨x0,x1,xz⟩:=ptc K6.out.loc
                have xf0:=xz 0
                have xf1:=xz 1
                clear xz
                obtain ⟨u0,u1,uz⟩:=ptc K6.out.res
                have uf0:=uz 0
                have uf1:=uz 1
                clear uz
                go_wp2_with fail
                have f1:=setAll_row (b:=w.heap.size) (t:=26) (ys:=[.slice none 0 0,.slice none 0 0]) (xs:=[(.slice (some ⟨gg,0,none⟩) ((rowOf encOp D.ops).len+1) cap2),.slice A2 (rowOf encF D.frags).len c2]) rfl K6.out.res
                have f2:=R6.out.setAll (b:=w.heap.size) K6.out.hr [(.slice (some ⟨gg,0,none⟩) ((rowOf encOp D.ops).len+1) cap2),.slice A2 (rowOf encF D.frags).len c2] 0
                have f3:=Moved.setAll (r:=r) (b:=w.heap.size) (Nat.le_refl _) [(.slice (some ⟨gg,0,none⟩) ((rowOf encOp D.ops).len+1) cap2),.slice A2 (rowOf encF D.frags).len c2] 0 _ K6.out.mv
                have FT:=(K6.out.tree (by simp only [List.length_append,List.length_singleton];omega) (by dsimp only;omega)).fin (w:=w) (Nat.le_succ _) [(.slice (some ⟨gg,0,none⟩) ((rowOf encOp D.ops).len+1) cap2),.slice A2 (rowOf encF D.frags).len c2]
                rw [HM.out] at f2
                have FP:=HQ.out _ _ (post_ok (a:=(⟨D.ops++[a],D.frags⟩:DocT)) (docRr_ok HE2.out.symm) ⟨[(.slice (some ⟨gg,0,none⟩) ((rowOf encOp D.ops).len+1) cap2),.slice A2 (rowOf encF D.frags).len c2],rfl,FT⟩ f2 f3)
                exact ret_st rfl rfl rfl f1 Tryz.underlying26 ⟨_,rfl⟩ (by kernel_rfl) FP
              | false =>
                rw [hem] at hE
                simp only [Bool.false_eq_true,if_false] at hE
                have HE2:=Hd hE
                clear hE hem
                go_wp2_with fail
                go_roundg g
                case measure=>omega
                case rel=>exact ⟨(⟨D.ops++[a],D.frags⟩:DocT),tq2,_,_,_,_,_,_,_,_,by omega,by simp only [List.length_append,List.length_singleton];omega,vaside ⟨K6.out,R6.out,D6.out,G3.out,HE2.out⟩⟩
            refine AllReadyH.cons rfl (fun K hK=>?_) AllReadyH.nil
            go_simp
            refine hK.out _ _ trivial (fun _=>?_)
            clear hK K
            try simp only [Act.put,stT,stZ,stS]
            refine wpAnyH_ready (rs:=[1]) (by kernel_rfl) (by simp) ?_
            refine AllReadyH.cons rfl (fun K hK=>?_) AllReadyH.nil
            go_simp
            refine hK.out _ _ trivial (fun _=>?_)
            clear hK K
            try simp only [Act.put,stT,stZ,stS]
            refine wpAnyH_ready (rs:=[5]) (by kernel_rfl) (by simp) ?_
            refine AllReadyH.cons rfl (fun K hK=>?_) AllReadyH.nil
            refine step_append_lies _ (by rfl) _ _ 23 (by rfl) (w.heap.size+2) 68 i0 (.agg #[.int .i64 0,.string ⟨#[]⟩,.slice none 0 0,.slice none 0 0,.slice none 0 0]) 5 96 Tryz.underlying23 hi hz0 hz1 hz2 (by rfl) (by decide) _ (rowOf encOp D.ops).len xs1 (by rfl) (own_low K3.out.r1.own ((Below.refl _ _).alloc (Nat.le_refl _) _)) _ 1 1 [.int .i64 z0,.string z1,.slice A9 n9 k9,.slice B9 m9 l9,.slice C9 o9 q9] (by rfl) (by rfl) (fun j u hj=>World.news_of_block (heap_alloc_new _ _) j u hj) (by intro y hy;simp at hy;rcases hy with rfl|rfl|rfl|rfl|rfl<;>rfl) (by decide) (by unfold maxLen;rw [rowOf_len];omega) (by rw [rowOf_len];omega) (by have h1:=K3.out.lt;simp;omega) _ (by rfl) ?_
            intro gg cap2 w4 hown4 hgrow hat hlt4
            have HG4:=Hd hgrow
            have HO4:=Hd hown4
            have HT4:=Hd hat
            have HL4:=Hd (K3.out.grown hgrow K3.out.own1)
            clear hgrow hown4 hat j0 j1 jf0 jf1 jA
            obtain ⟨x0,x1,xz⟩:=ptc HL4.out.2.1
            have xf0:=xz 0
            have xf1:=xz 1
            clear xz
            refine hK.out _ _ trivial (fun _=>?_)
            clear hK K
            simp only [Act.put,List.setIfInBounds_toArray]
            refine wpAnyH_ready (rs:=[6]) (by kernel_rfl) (by simp) ?_
            refine AllReadyH.cons rfl (fun K hK=>?_) AllReadyH.nil
            go_simp
            refine hK.out _ _ trivial (fun _=>?_)
            clear hK K
            try simp only [Act.put,stT,stZ,stS]
            refine wpAnyH_ready (rs:=[7]) (by kernel_rfl) (by simp) ?_
            refine AllReadyH.cons rfl (fun K hK=>?_) AllReadyH.nil
            go_simp
            refine hK.out _ _ trivial (fun _=>?_)
            clear hK K
            try simp only [Act.put,stT,stZ,stS]
            refine wpAnyH_done (by kernel_rfl) ?_ _
            obtain ⟨P5,K5⟩:=DK.app1 (x:=a) KD.out M3.out TS3.out HO4.out HG4.out HT4.out
            have G5:=grown_keep HG4.out (r:=r) (fun b hb=>by have:=K3.out.own1 b hb;have:=K3.out.hr;omega)
            have hr9:=K3.out.hr
            have R5:=(G5.1 _ _ (R3.out.below (blw _ _))).set (b:=w.heap.size+1) (i:=0) (v:=(.slice (some ⟨gg,0,none⟩) ((rowOf encOp D.ops).len+1) cap2)) (by omega)
            have D5:=(G5.2 ((DD.out.moved M3.out).moved (Moved.of_below (blw _ _)))).set (b:=w.heap.size+1) (i:=0) (v:=(.slice (some ⟨gg,0,none⟩) ((rowOf encOp D.ops).len+1) cap2)) (by omega)
            have K6:=Hd K5
            have R6:=Hd R5
            have D6:=Hd D5
            clear K5 R5 D5 G5 x0 x1 xf0 xf1
            generalize w4.setCell ⟨w.heap.size+1,0,none⟩ (.slice (some ⟨gg,0,none⟩) ((rowOf encOp D.ops).len+1) cap2)=w5 at *
            go_wp2_with fail
            refine (ended_any r tq2 0 _ R6.out).mono ?_
            rintro e w6 ⟨rfl,rfl⟩
            have hE:=HE.out
            cases hem:tq2.isEmpty with
            | true =>
              rw [hem,if_pos rfl] at hE
              have HE2:=Hd hE
              have HM:=Hd (List.isEmpty_iff.1 hem)
              clear hE hem
              obtain ⟨x0,x1,xz⟩:=ptc K6.out.loc
              have xf0:=xz 0
              have xf1:=xz 1
              clear xz
              obtain ⟨u0,u1,uz⟩:=ptc K6.out.res
              have uf0:=uz 0
              have uf1:=uz 1
              clear uz
              go_wp2_with fail
              have f1:=setAll_row (b:=w.heap.size) (t:=26) (ys:=[.slice none 0 0,.slice none 0 0]) (xs:=[(.slice (some ⟨gg,0,none⟩) ((rowOf encOp D.ops).len+1) cap2),.slice A2 (rowOf encF D.frags).len c2]) rfl K6.out.res
              have f2:=R6.out.setAll (b:=w.heap.size) K6.out.hr [(.slice (some ⟨gg,0,none⟩) ((rowOf encOp D.ops).len+1) cap2),.slice A2 (rowOf encF D.frags).len c2] 0
              have f3:=Moved.setAll (r:=r) (b:=w.heap.size) (Nat.le_refl _) [(.slice (some ⟨gg,0,none⟩) ((rowOf encOp D.ops).len+1) cap2),.slice A2 (rowOf encF D.frags).len c2] 0 _ K6.out.mv
              have FT:=(K6.out.tree (by simp only [List.length_append,List.length_singleton];omega) (by dsimp only;omega)).fin (w:=w) (Nat.le_succ _) [(.slice (some ⟨gg,0,none⟩) ((rowOf encOp D.ops).len+1) cap2),.slice A2 (rowOf encF D.frags).len c2]
              rw [HM.out] at f2
              have FP:=HQ.out _ _ (post_ok (a:=(⟨D.ops++[a],D.frags⟩:DocT)) (docRr_ok HE2.out.symm) ⟨[(.slice (some ⟨gg,0,none⟩) ((rowOf encOp D.ops).len+1) cap2),.slice A2 (rowOf encF D.frags).len c2],rfl,FT⟩ f2 f3)
              exact ret_st rfl rfl rfl f1 Tryz.underlying26 ⟨_,rfl⟩ (by kernel_rfl) FP
            | false =>
              rw [hem] at hE
              simp only [Bool.false_eq_true,if_false] at hE
              have HE2:=Hd hE
              clear hE hem
              go_wp2_with fail
              go_roundg g
              case measure=>omega
              case rel=>exact ⟨(⟨D.ops++[a],D.frags⟩:DocT),tq2,_,_,_,_,_,_,_,_,by omega,by simp only [List.length_append,List.length_singleton];omega,vaside ⟨K6.out,R6.out,D6.out,G3.out,HE2.out⟩⟩
        | false =>
          rw [hb3] at h
          obtain ⟨rfl,rr,mm⟩:=h
          rw [skip_no hb3] at rr
          have K1n:=Hd (K0n.out.next mm)
          have R1n:=Hd rr
          have D1n:=Hd (D0n.out.moved mm)
          clear rr mm
          go_wp2_with fail
          refine (skip_any r tq 0 2 fragB _ R1n.out).mono ?_
          intro e wk2 h
          cases hb4:atB 2 fragB tq with
          | true =>
            rw [hb4] at h
            obtain ⟨rfl,rr,mm⟩:=h
            rw [skip_yes hb4] at rr
            have K2:=Hd (K1n.out.next mm)
            have R2:=Hd rr
            have D2:=Hd (D1n.out.moved mm)
            have hlt1:=(at_sfx hb4).2
            have G2:=Hd (G2.out.sub (at_sfx hb4).1)
            clear rr mm
            have KD:=Hd (K2.out.next (Moved.of_below (Below.drew (Below.refl _ _))))
            have RD:=Hd (R2.out.below (Below.drew (Below.refl _ _)))
            have DD:=Hd (D2.out.moved (Moved.of_below (r:=r) (Below.drew (Below.refl _ _))))
            obtain ⟨y0,y1,yz⟩:=ptc KD.out.loc
            have yf0:=yz 0
            have yf1:=yz 1
            clear yz
            go_wp2_with fail
            cases hv:fragR 0 tq.tail with
            | error x =>
              have HE:=Hd (show docR ts=.error x by rw [← EX.out,docF,defR];simp only [hb1,hb2,hb3,hb4,hv,if_true,if_false,Bool.false_eq_true])
              refine wp_region_held_drew (S:=fun _=>True) (by kernel_rfl) trivial (fun _=>?_)
              refine wpAnyH_take (i:=0) (v:=?_) rfl (by kernel_rfl) (by kernel_rfl) (by kernel_rfl) (fun _ _ _ h=>h) (Or.inl ⟨by rfl,?_⟩) trivial ?_
              rotate_left
              · (intro w _;go_simp;try with_reducible rfl)
              simp only [Act.put,List.setIfInBounds_toArray]
              refine wpAnyH_take (i:=2) (v:=?_) rfl (by kernel_rfl) (by kernel_rfl) (by kernel_rfl) (fun _ _ _ h=>h) (Or.inl ⟨by rfl,?_⟩) trivial ?_
              rotate_left
              · (intro w _;go_simp;try with_reducible rfl)
              simp only [Act.put]
              refine wpAnyH_ready (rs:=[1,3]) (by kernel_rfl) (by simp) ?_
              refine AllReadyH.cons rfl (fun K hK=>?_) ?_
              · skip
                go_simp
                refine hK.out _ _ trivial (fun _=>?_)
                clear hK K
                try simp only [Act.put,stT,stZ,stS]
                refine wpAnyH_ready (rs:=[3]) (by kernel_rfl) (by simp) ?_
                refine AllReadyH.cons rfl (fun K hK=>?_) AllReadyH.nil
                go_simp
                go_at_call 99
                refine (frag_any 0 tq.tail r _ G2.out (Nat.zero_le _) RD.out DD.out).mono ?_
                intro e w3 h
                rw [hv] at h
                obtain ⟨rfl,m3⟩:=of_err h
                exact ⟨rfl,HQ.out _ _ (per (docRr_err HE.out) (KD.out.mv.trans m3))⟩
              refine AllReadyH.cons rfl (fun K hK=>?_) AllReadyH.nil
              go_simp
              go_at_call 99
              refine (frag_any 0 tq.tail r _ G2.out (Nat.zero_le _) RD.out DD.out).mono ?_
              intro e w3 h
              rw [hv] at h
              obtain ⟨rfl,m3⟩:=of_err h
              exact ⟨rfl,HQ.out _ _ (per (docRr_err HE.out) (KD.out.mv.trans m3))⟩
            | ok p =>
              obtain ⟨a,tq2⟩:=p
              have hlt2:=(frag_sfx hv).2
              have G3:=Hd (G2.out.sub (frag_sfx hv).1)
              have HE:=Hd (show (if tq2.isEmpty=true then .ok (⟨D.ops,D.frags++[a]⟩:DocT) else docF g (⟨D.ops,D.frags++[a]⟩:DocT) tq2)=docR ts by rw [← EX.out,docF,defR];simp only [hb1,hb2,hb3,hb4,hv,if_true,if_false,Bool.false_eq_true])
              have HV:=Hd hv
              clear hv
              refine wp_region_held_drew (S:=fun _=>True) (by kernel_rfl) trivial (fun _=>?_)
              refine wpAnyH_take (i:=0) (v:=?_) rfl (by kernel_rfl) (by kernel_rfl) (by kernel_rfl) (fun _ _ _ h=>h) (Or.inl ⟨by rfl,?_⟩) trivial ?_
              rotate_left
              · (intro w _;go_simp;try with_reducible rfl)
              simp only [Act.put,List.setIfInBounds_toArray]
              refine wpAnyH_take (i:=2) (v:=?_) rfl (by kernel_rfl) (by kernel_rfl) (by kernel_rfl) (fun _ _ _ h=>h) (Or.inl ⟨by rfl,?_⟩) trivial ?_
              rotate_left
              · (intro w _;go_simp;try with_reducible rfl)
              simp only [Act.put]
              refine wpAnyH_ready (rs:=[1,3]) (by kernel_rfl) (by simp) ?_
              refine AllReadyH.cons rfl (fun K hK=>?_) ?_
              · skip
                go_simp
                refine hK.out _ _ trivial (fun _=>?_)
                clear hK K
                try simp only [Act.put,stT,stZ,stS]
                refine wpAnyH_ready (rs:=[3]) (by kernel_rfl) (by simp) ?_
                refine AllReadyH.cons rfl (fun K hK=>?_) AllReadyH.nil
                go_simp
                go_at_call 99
                refine (frag_any 0 tq.tail r _ G2.out (Nat.zero_le _) RD.out DD.out).mono ?_
                intro e w3 h
                rw [HV.out] at h
                obtain ⟨⟨v,rfl,hl⟩,r3,m3⟩:=of_ok h
                obtain ⟨z0,z1,A9,n9,k9,B9,m9,l9,rfl,hts⟩:=frag_open hl
                have TS3:=Hd (hts)
                have R3:=Hd r3
                have M3:=Hd m3
                have K3:=Hd (KD.out.next m3)
                clear h hl r3 m3 y0 y1 yf0 yf1 hts
                obtain ⟨j0,j1,jz⟩:=ptc K3.out.loc
                have jf0:=jz 0
                have jf1:=jz 1
                clear jz
                have jA:=fun o=>(World.cell?_of_block (a:=⟨w.heap.size+1,1,none⟩) (Below.heap_alloc w3 o _ (Nat.lt_of_succ_le K3.out.lt))).trans j1
                skip
                refine hK.out _ _ trivial (fun _=>?_)
                clear hK K
                try simp only [Act.put,stT,stZ,stS]
                refine wpAnyH_ready (rs:=[4]) (by kernel_rfl) (by simp) ?_
                refine AllReadyH.cons rfl (fun K hK=>?_) AllReadyH.nil
                go_simp
                refine hK.out _ _ trivial (fun _=>?_)
                clear hK K
                try simp only [Act.put,stT,stZ,stS]
                refine wpAnyH_ready (rs:=[5]) (by kernel_rfl) (by simp) ?_
                refine AllReadyH.cons rfl (fun K hK=>?_) AllReadyH.nil
                refine step_append_lies _ (by rfl) _ _ 24 (by rfl) (w.heap.size+2) 87 i1 (.agg #[.string ⟨#[]⟩,.string ⟨#[]⟩,.slice none 0 0,.slice none 0 0]) 4 80 Tryz.underlying24 gi gz0 gz1 gz2 (by rfl) (by decide) _ (rowOf encF D.frags).len xs2 (by rfl) (own_low K3.out.r2.own ((Below.refl _ _).alloc (Nat.le_refl _) _)) _ 1 1 [.string z0,.string z1,.slice A9 n9 k9,.slice B9 m9 l9] (by rfl) (by rfl) (fun j u hj=>World.news_of_block (heap_alloc_new _ _) j u hj) (by intro y hy;simp at hy;rcases hy with rfl|rfl|rfl|rfl<;>rfl) (by decide) (by unfold maxLen;rw [rowOf_len];omega) (by rw [rowOf_len];omega) (by have h1:=K3.out.lt;simp;omega) _ (by rfl) ?_
                intro gg cap2 w4 hown4 hgrow hat hlt4
                have HG4:=Hd hgrow
                have HO4:=Hd hown4
                have HT4:=Hd hat
                have HL4:=Hd (K3.out.grown hgrow K3.out.own2)
                clear hgrow hown4 hat j0 j1 jf0 jf1 jA
                obtain ⟨x0,x1,xz⟩:=ptc HL4.out.2.1
                have xf0:=xz 0
                have xf1:=xz 1
                clear xz
                refine hK.out _ _ trivial (fun _=>?_)
                clear hK K
                simp only [Act.put,List.setIfInBounds_toArray]
                refine wpAnyH_ready (rs:=[6]) (by kernel_rfl) (by simp) ?_
                refine AllReadyH.cons rfl (fun K hK=>?_) AllReadyH.nil
                go_simp
                refine hK.out _ _ trivial (fun _=>?_)
                clear hK K
                try simp only [Act.put,stT,stZ,stS]
                refine wpAnyH_ready (rs:=[7]) (by kernel_rfl) (by simp) ?_
                refine AllReadyH.cons rfl (fun K hK=>?_) AllReadyH.nil
                go_simp
                refine hK.out _ _ trivial (fun _=>?_)
                clear hK K
                try simp only [Act.put,stT,stZ,stS]
                refine wpAnyH_done (by kernel_rfl) ?_ _
                obtain ⟨P5,K5⟩:=DK.app2 (x:=a) KD.out M3.out TS3.out HO4.out HG4.out HT4.out
                have G5:=grown_keep HG4.out (r:=r) (fun b hb=>by have:=K3.out.own2 b hb;have:=K3.out.hr;omega)
                have hr9:=K3.out.hr
                have R5:=(G5.1 _ _ (R3.out.below (blw _ _))).set (b:=w.heap.size+1) (i:=1) (v:=(.slice (some ⟨gg,0,none⟩) ((rowOf encF D.frags).len+1) cap2)) (by omega)
                have D5:=(G5.2 ((DD.out.moved M3.out).moved (Moved.of_below (blw _ _)))).set (b:=w.heap.size+1) (i:=1) (v:=(.slice (some ⟨gg,0,none⟩) ((rowOf encF D.frags).len+1) cap2)) (by omega)
                have K6:=Hd K5
                have R6:=Hd R5
                have D6:=Hd D5
                clear K5 R5 D5 G5 x0 x1 xf0 xf1
                generalize w4.setCell ⟨w.heap.size+1,1,none⟩ (.slice (some ⟨gg,0,none⟩) ((rowOf encF D.frags).len+1) cap2)=w5 at *
                go_wp2_with fail
                refine (ended_any r tq2 0 _ R6.out).mono ?_
                rintro e w6 ⟨rfl,rfl⟩
                have hE:=HE.out
                cases hem:tq2.isEmpty with
                | true =>
                  rw [hem,if_pos rfl] at hE
                  have HE2:=Hd hE
                  have HM:=Hd (List.isEmpty_iff.1 hem)
                  clear hE hem
                  obtain ⟨x0,x1,xz⟩:=ptc K6.out.loc
                  have xf0:=xz 0
                  have xf1:=xz 1
                  clear xz
                  obtain ⟨u0,u1,uz⟩:=ptc K6.out.res
                  have uf0:=uz 0
                  have uf1:=uz 1
                  clear uz
                  go_wp2_with fail
                  have f1:=setAll_row (b:=w.heap.size) (t:=26) (ys:=[.slice none 0 0,.slice none 0 0]) (xs:=[.slice A1 (rowOf encOp D.ops).len c1,(.slice (some ⟨gg,0,none⟩) ((rowOf encF D.frags).len+1) cap2)]) rfl K6.out.res
                  have f2:=R6.out.setAll (b:=w.heap.size) K6.out.hr [.slice A1 (rowOf encOp D.ops).len c1,(.slice (some ⟨gg,0,none⟩) ((rowOf encF D.frags).len+1) cap2)] 0
                  have f3:=Moved.setAll (r:=r) (b:=w.heap.size) (Nat.le_refl _) [.slice A1 (rowOf encOp D.ops).len c1,(.slice (some ⟨gg,0,none⟩) ((rowOf encF D.frags).len+1) cap2)] 0 _ K6.out.mv
                  have FT:=(K6.out.tree (by dsimp only;omega) (by simp only [List.length_append,List.length_singleton];omega)).fin (w:=w) (Nat.le_succ _) [.slice A1 (rowOf encOp D.ops).len c1,(.slice (some ⟨gg,0,none⟩) ((rowOf encF D.frags).len+1) cap2)]
                  rw [HM.out] at f2
                  have FP:=HQ.out _ _ (post_ok (a:=(⟨D.ops,D.frags++[a]⟩:DocT)) (docRr_ok HE2.out.symm) ⟨[.slice A1 (rowOf encOp D.ops).len c1,(.slice (some ⟨gg,0,none⟩) ((rowOf encF D.frags).len+1) cap2)],rfl,FT⟩ f2 f3)
                  exact ret_st rfl rfl rfl f1 Tryz.underlying26 ⟨_,rfl⟩ (by kernel_rfl) FP
                | false =>
                  rw [hem] at hE
                  simp only [Bool.false_eq_true,if_false] at hE
                  have HE2:=Hd hE
                  clear hE hem
                  go_wp2_with fail
                  go_roundg g
                  case measure=>omega
                  case rel=>exact ⟨(⟨D.ops,D.frags++[a]⟩:DocT),tq2,_,_,_,_,_,_,_,_,by omega,by simp only [List.length_append,List.length_singleton];omega,vaside ⟨K6.out,R6.out,D6.out,G3.out,HE2.out⟩⟩
              refine AllReadyH.cons rfl (fun K hK=>?_) AllReadyH.nil
              go_simp
              go_at_call 99
              refine (frag_any 0 tq.tail r _ G2.out (Nat.zero_le _) RD.out DD.out).mono ?_
              intro e w3 h
              rw [HV.out] at h
              obtain ⟨⟨v,rfl,hl⟩,r3,m3⟩:=of_ok h
              obtain ⟨z0,z1,A9,n9,k9,B9,m9,l9,rfl,hts⟩:=frag_open hl
              have TS3:=Hd (hts)
              have R3:=Hd r3
              have M3:=Hd m3
              have K3:=Hd (KD.out.next m3)
              clear h hl r3 m3 y0 y1 yf0 yf1 hts
              obtain ⟨j0,j1,jz⟩:=ptc K3.out.loc
              have jf0:=jz 0
              have jf1:=jz 1
              clear jz
              have jA:=fun o=>(World.cell?_of_block (a:=⟨w.heap.size+1,1,none⟩) (Below.heap_alloc w3 o _ (Nat.lt_of_succ_le K3.out.lt))).trans j1
              skip
              refine hK.out _ _ trivial (fun _=>?_)
              clear hK K
              try simp only [Act.put,stT,stZ,stS]
              refine wpAnyH_ready (rs:=[1,4]) (by kernel_rfl) (by simp) ?_
              refine AllReadyH.cons rfl (fun K hK=>?_) ?_
              · skip
                go_simp
                refine hK.out _ _ trivial (fun _=>?_)
                clear hK K
                try simp only [Act.put,stT,stZ,stS]
                refine wpAnyH_ready (rs:=[4]) (by kernel_rfl) (by simp) ?_
                refine AllReadyH.cons rfl (fun K hK=>?_) AllReadyH.nil
                go_simp
                refine hK.out _ _ trivial (fun _=>?_)
                clear hK K
                try simp only [Act.put,stT,stZ,stS]
                refine wpAnyH_ready (rs:=[5]) (by kernel_rfl) (by simp) ?_
                refine AllReadyH.cons rfl (fun K hK=>?_) AllReadyH.nil
                refine step_append_lies _ (by rfl) _ _ 24 (by rfl) (w.heap.size+2) 87 i1 (.agg #[.string ⟨#[]⟩,.string ⟨#[]⟩,.slice none 0 0,.slice none 0 0]) 4 80 Tryz.underlying24 gi gz0 gz1 gz2 (by rfl) (by decide) _ (rowOf encF D.frags).len xs2 (by rfl) (own_low K3.out.r2.own ((Below.refl _ _).alloc (Nat.le_refl _) _)) _ 1 1 [.string z0,.string z1,.slice A9 n9 k9,.slice B9 m9 l9] (by rfl) (by rfl) (fun j u hj=>World.news_of_block (heap_alloc_new _ _) j u hj) (by intro y hy;simp at hy;rcases hy with rfl|rfl|rfl|rfl<;>rfl) (by decide) (by unfold maxLen;rw [rowOf_len];omega) (by rw [rowOf_len];omega) (by have h1:=K3.out.lt;simp;omega) _ (by rfl) ?_
                intro gg cap2 w4 hown4 hgrow hat hlt4
                have HG4:=Hd hgrow
                have HO4:=Hd hown4
                have HT4:=Hd hat
                have HL4:=Hd (K3.out.grown hgrow K3.out.own2)
                clear hgrow hown4 hat j0 j1 jf0 jf1 jA
                obtain ⟨x0,x1,xz⟩:=ptc HL4.out.2.1
                have xf0:=xz 0
                have xf1:=xz 1
                clear xz
                refine hK.out _ _ trivial (fun _=>?_)
                clear hK K
                simp only [Act.put,List.setIfInBounds_toArray]
                refine wpAnyH_ready (rs:=[6]) (by kernel_rfl) (by simp) ?_
                refine AllReadyH.cons rfl (fun K hK=>?_) AllReadyH.nil
                go_simp
                refine hK.out _ _ trivial (fun _=>?_)
                clear hK K
                try simp only [Act.put,stT,stZ,stS]
                refine wpAnyH_ready (rs:=[7]) (by kernel_rfl) (by simp) ?_
                refine AllReadyH.cons rfl (fun K hK=>?_) AllReadyH.nil
                go_simp
                refine hK.out _ _ trivial (fun _=>?_)
                clear hK K
                try simp only [Act.put,stT,stZ,stS]
                refine wpAnyH_done (by kernel_rfl) ?_ _
                obtain ⟨P5,K5⟩:=DK.app2 (x:=a) KD.out M3.out TS3.out HO4.out HG4.out HT4.out
                have G5:=grown_keep HG4.out (r:=r) (fun b hb=>by have:=K3.out.own2 b hb;have:=K3.out.hr;omega)
                have hr9:=K3.out.hr
                have R5:=(G5.1 _ _ (R3.out.below (blw _ _))).set (b:=w.heap.size+1) (i:=1) (v:=(.slice (some ⟨gg,0,none⟩) ((rowOf encF D.frags).len+1) cap2)) (by omega)
                have D5:=(G5.2 ((DD.out.moved M3.out).moved (Moved.of_below (blw _ _)))).set (b:=w.heap.size+1) (i:=1) (v:=(.slice (some ⟨gg,0,none⟩) ((rowOf encF D.frags).len+1) cap2)) (by omega)
                have K6:=Hd K5
                have R6:=Hd R5
                have D6:=Hd D5
                clear K5 R5 D5 G5 x0 x1 xf0 xf1
                generalize w4.setCell ⟨w.heap.size+1,1,none⟩ (.slice (some ⟨gg,0,none⟩) ((rowOf encF D.frags).len+1) cap2)=w5 at *
                go_wp2_with fail
                refine (ended_any r tq2 0 _ R6.out).mono ?_
                rintro e w6 ⟨rfl,rfl⟩
                have hE:=HE.out
                cases hem:tq2.isEmpty with
                | true =>
                  rw [hem,if_pos rfl] at hE
                  have HE2:=Hd hE
                  have HM:=Hd (List.isEmpty_iff.1 hem)
                  clear hE hem
                  obtain ⟨x0,x1,xz⟩:=ptc K6.out.loc
                  have xf0:=xz 0
                  have xf1:=xz 1
                  clear xz
                  obtain ⟨u0,u1,uz⟩:=ptc K6.out.res
                  have uf0:=uz 0
                  have uf1:=uz 1
                  clear uz
                  go_wp2_with fail
                  have f1:=setAll_row (b:=w.heap.size) (t:=26) (ys:=[.slice none 0 0,.slice none 0 0]) (xs:=[.slice A1 (rowOf encOp D.ops).len c1,(.slice (some ⟨gg,0,none⟩) ((rowOf encF D.frags).len+1) cap2)]) rfl K6.out.res
                  have f2:=R6.out.setAll (b:=w.heap.size) K6.out.hr [.slice A1 (rowOf encOp D.ops).len c1,(.slice (some ⟨gg,0,none⟩) ((rowOf encF D.frags).len+1) cap2)] 0
                  have f3:=Moved.setAll (r:=r) (b:=w.heap.size) (Nat.le_refl _) [.slice A1 (rowOf encOp D.ops).len c1,(.slice (some ⟨gg,0,none⟩) ((rowOf encF D.frags).len+1) cap2)] 0 _ K6.out.mv
                  have FT:=(K6.out.tree (by dsimp only;omega) (by simp only [List.length_append,List.length_singleton];omega)).fin (w:=w) (Nat.le_succ _) [.slice A1 (rowOf encOp D.ops).len c1,(.slice (some ⟨gg,0,none⟩) ((rowOf encF D.frags).len+1) cap2)]
                  rw [HM.out] at f2
                  have FP:=HQ.out _ _ (post_ok (a:=(⟨D.ops,D.frags++[a]⟩:DocT)) (docRr_ok HE2.out.symm) ⟨[.slice A1 (rowOf encOp D.ops).len c1,(.slice (some ⟨gg,0,none⟩) ((rowOf encF D.frags).len+1) cap2)],rfl,FT⟩ f2 f3)
                  exact ret_st rfl rfl rfl f1 Tryz.underlying26 ⟨_,rfl⟩ (by kernel_rfl) FP
                | false =>
                  rw [hem] at hE
                  simp only [Bool.false_eq_true,if_false] at hE
                  have HE2:=Hd hE
                  clear hE hem
                  go_wp2_with fail
                  go_roundg g
                  case measure=>omega
                  case rel=>exact ⟨(⟨D.ops,D.frags++[a]⟩:DocT),tq2,_,_,_,_,_,_,_,_,by omega,by simp only [List.length_append,List.length_singleton];omega,vaside ⟨K6.out,R6.out,D6.out,G3.out,HE2.out⟩⟩
              refine AllReadyH.cons rfl (fun K hK=>?_) AllReadyH.nil
              go_simp
              refine hK.out _ _ trivial (fun _=>?_)
              clear hK K
              try simp only [Act.put,stT,stZ,stS]
              refine wpAnyH_ready (rs:=[1]) (by kernel_rfl) (by simp) ?_
              refine AllReadyH.cons rfl (fun K hK=>?_) AllReadyH.nil
              go_simp
              refine hK.out _ _ trivial (fun _=>?_)
              clear hK K
              try simp only [Act.put,stT,stZ,stS]
              refine wpAnyH_ready (rs:=[5]) (by kernel_rfl) (by simp) ?_
              refine AllReadyH.cons rfl (fun K hK=>?_) AllReadyH.nil
              refine step_append_lies _ (by rfl) _ _ 24 (by rfl) (w.heap.size+2) 87 i1 (.agg #[.string ⟨#[]⟩,.string ⟨#[]⟩,.slice none 0 0,.slice none 0 0]) 4 80 Tryz.underlying24 gi gz0 gz1 gz2 (by rfl) (by decide) _ (rowOf encF D.frags).len xs2 (by rfl) (own_low K3.out.r2.own ((Below.refl _ _).alloc (Nat.le_refl _) _)) _ 1 1 [.string z0,.string z1,.slice A9 n9 k9,.slice B9 m9 l9] (by rfl) (by rfl) (fun j u hj=>World.news_of_block (heap_alloc_new _ _) j u hj) (by intro y hy;simp at hy;rcases hy with rfl|rfl|rfl|rfl<;>rfl) (by decide) (by unfold maxLen;rw [rowOf_len];omega) (by rw [rowOf_len];omega) (by have h1:=K3.out.lt;simp;omega) _ (by rfl) ?_
              intro gg cap2 w4 hown4 hgrow hat hlt4
              have HG4:=Hd hgrow
              have HO4:=Hd hown4
              have HT4:=Hd hat
              have HL4:=Hd (K3.out.grown hgrow K3.out.own2)
              clear hgrow hown4 hat j0 j1 jf0 jf1 jA
              obtain ⟨x0,x1,xz⟩:=ptc HL4.out.2.1
              have xf0:=xz 0
              have xf1:=xz 1
              clear xz
              refine hK.out _ _ trivial (fun _=>?_)
              clear hK K
              simp only [Act.put,List.setIfInBounds_toArray]
              refine wpAnyH_ready (rs:=[6]) (by kernel_rfl) (by simp) ?_
              refine AllReadyH.cons rfl (fun K hK=>?_) AllReadyH.nil
              go_simp
              refine hK.out _ _ trivial (fun _=>?_)
              clear hK K
              try simp only [Act.put,stT,stZ,stS]
              refine wpAnyH_ready (rs:=[7]) (by kernel_rfl) (by simp) ?_
              refine AllReadyH.cons rfl (fun K hK=>?_) AllReadyH.nil
              go_simp
              refine hK.out _ _ trivial (fun _=>?_)
              clear hK K
              try simp only [Act.put,stT,stZ,stS]
              refine wpAnyH_done (by kernel_rfl) ?_ _
              obtain ⟨P5,K5⟩:=DK.app2 (x:=a) KD.out M3.out TS3.out HO4.out HG4.out HT4.out
              have G5:=grown_keep HG4.out (r:=r) (fun b hb=>by have:=K3.out.own2 b hb;have:=K3.out.hr;omega)
              have hr9:=K3.out.hr
              have R5:=(G5.1 _ _ (R3.out.below (blw _ _))).set (b:=w.heap.size+1) (i:=1) (v:=(.slice (some ⟨gg,0,none⟩) ((rowOf encF D.frags).len+1) cap2)) (by omega)
              have D5:=(G5.2 ((DD.out.moved M3.out).moved (Moved.of_below (blw _ _)))).set (b:=w.heap.size+1) (i:=1) (v:=(.slice (some ⟨gg,0,none⟩) ((rowOf encF D.frags).len+1) cap2)) (by omega)
              have K6:=Hd K5
              have R6:=Hd R5
              have D6:=Hd D5
              clear K5 R5 D5 G5 x0 x1 xf0 xf1
              generalize w4.setCell ⟨w.heap.size+1,1,none⟩ (.slice (some ⟨gg,0,none⟩) ((rowOf encF D.frags).len+1) cap2)=w5 at *
              go_wp2_with fail
              refine (ended_any r tq2 0 _ R6.out).mono ?_
              rintro e w6 ⟨rfl,rfl⟩
              have hE:=HE.out
              cases hem:tq2.isEmpty with
              | true =>
                rw [hem,if_pos rfl] at hE
                have HE2:=Hd hE
                have HM:=Hd (List.isEmpty_iff.1 hem)
                clear hE hem
                obtain ⟨x0,x1,xz⟩:=ptc K6.out.loc
                have xf0:=xz 0
                have xf1:=xz 1
                clear xz
                obtain ⟨u0,u1,uz⟩:=ptc K6.out.res
                have uf0:=uz 0
                have uf1:=uz 1
                clear uz
                go_wp2_with fail
                have f1:=setAll_row (b:=w.heap.size) (t:=26) (ys:=[.slice none 0 0,.slice none 0 0]) (xs:=[.slice A1 (rowOf encOp D.ops).len c1,(.slice (some ⟨gg,0,none⟩) ((rowOf encF D.frags).len+1) cap2)]) rfl K6.out.res
                have f2:=R6.out.setAll (b:=w.heap.size) K6.out.hr [.slice A1 (rowOf encOp D.ops).len c1,(.slice (some ⟨gg,0,none⟩) ((rowOf encF D.frags).len+1) cap2)] 0
                have f3:=Moved.setAll (r:=r) (b:=w.heap.size) (Nat.le_refl _) [.slice A1 (rowOf encOp D.ops).len c1,(.slice (some ⟨gg,0,none⟩) ((rowOf encF D.frags).len+1) cap2)] 0 _ K6.out.mv
                have FT:=(K6.out.tree (by dsimp only;omega) (by simp only [List.length_append,List.length_singleton];omega)).fin (w:=w) (Nat.le_succ _) [.slice A1 (rowOf encOp D.ops).len c1,(.slice (some ⟨gg,0,none⟩) ((rowOf encF D.frags).len+1) cap2)]
                rw [HM.out] at f2
                have FP:=HQ.out _ _ (post_ok (a:=(⟨D.ops,D.frags++[a]⟩:DocT)) (docRr_ok HE2.out.symm) ⟨[.slice A1 (rowOf encOp D.ops).len c1,(.slice (some ⟨gg,0,none⟩) ((rowOf encF D.frags).len+1) cap2)],rfl,FT⟩ f2 f3)
                exact ret_st rfl rfl rfl f1 Tryz.underlying26 ⟨_,rfl⟩ (by kernel_rfl) FP
              | false =>
                rw [hem] at hE
                simp only [Bool.false_eq_true,if_false] at hE
                have HE2:=Hd hE
                clear hE hem
                go_wp2_with fail
                go_roundg g
                case measure=>omega
                case rel=>exact ⟨(⟨D.ops,D.frags++[a]⟩:DocT),tq2,_,_,_,_,_,_,_,_,by omega,by simp only [List.length_append,List.length_singleton];omega,vaside ⟨K6.out,R6.out,D6.out,G3.out,HE2.out⟩⟩
          | false =>
            rw [hb4] at h
            obtain ⟨rfl,rr,mm⟩:=h
            rw [skip_no hb4] at rr
            have K2n:=Hd (K1n.out.next mm)
            have R2n:=Hd rr
            have D2n:=Hd (D1n.out.moved mm)
            clear rr mm
            go_wp2_with fail
            exact ⟨rfl,HQ.out _ _ (per (docRr_err (show docR ts=.error 2 by rw [← EX.out,docF,defR];simp only [hb1,hb2,hb3,hb4,if_false,Bool.false_eq_true])) K2n.out.mv)⟩
end Go.Proofs.YtpkmbhnikilihaaGreatDoor
