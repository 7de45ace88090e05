/- The landed arguments and directives. -/
import Derived.Test.YtkacnnhdfkpenaaGreatDoorSj26
import Derived.Deep.Cut
set_option maxRecDepth 100000
set_option maxHeartbeats 8000000
namespace Go.Proofs.YtkacnnhdfkpenaaGreatDoor
open Go.RowKit
def LayMono {α:Type} (lay:World→(Nat→Prop)→α→Value→Prop):Prop:=∀ (w:World) (P P':Nat→Prop) (a:α) (v:Value),(∀ b,P b→P' b)→lay w P a v→lay w P' a v
theorem layR_mono {α:Type} (enc:α→TrL):LayMono (layR enc):=fun _ _ _ _ _ hP h=>TP.keep (fun b hb=>⟨hP b hb,rfl⟩) _ _ h
theorem post_up {α:Type} {r d:Nat} {w w1 w':World} {lay:World→(Nat→Prop)→α→Value→Prop} {R:Except Int (α × List Tok)} {e:Ending} (hl:LayMono lay) (m:Moved r w w1) (h:Post r d w1 lay R e w'):Post r d w lay R e w':=by
 cases R with
 | error x=>exact ⟨h.1,m.trans h.2⟩
 | ok p =>
   obtain ⟨a,ts'⟩:=p
   obtain ⟨⟨v,e1,h1⟩,h2,h3⟩:=of_ok h
   exact ⟨⟨v,e1,hl _ _ _ _ _ (fun b hb=>⟨Nat.le_trans m.size hb.1,hb.2⟩) h1⟩,h2,m.trans h3⟩
theorem two_heap (w:World) (o o':Obj):((w.alloc o).alloc o').heap[w.heap.size]? = some o∧((w.alloc o).alloc o').heap[w.heap.size+1]? = some o':=
 ⟨(Below.heap_alloc _ _ _ (by simp)).trans (heap_alloc_new _ _),heap_alloc2_new _ _ _⟩
theorem args_any (fx:Bool) (d:Nat) (ts:List Tok) (r:Nat) (w:World) (hG:GoodD ts) (hd:d≤16) (hR:Rd w r ts d) (hK:KRd r w):Calls Tryz.prog 269 #[.pointer (some ⟨r,0,none⟩),.bool fx] w (Post r d w (layR encM) (argsR fx d ts)):=by
 suffices H:∀ Q:Ending→World→Prop,(∀ e w',Post r d w (layR encM) (argsR fx d ts) e w'→Q e w')→Calls Tryz.prog 269 #[.pointer (some ⟨r,0,none⟩),.bool fx] w Q from H _ (fun _ _ h=>h)
 intro Q hQ
 have HQ:=Hd hQ
 have hr:=hR.lt
 have B0:=Hd (blw w (.cells #[.bool fx] 4))
 have X0:=Hd (show ArgB r fx w.heap.size _ from ⟨heap_alloc_new w (.cells #[.bool fx] 4),by omega⟩)
 have R0:=Hd (hR.below B0.out)
 have D0:=Hd (hK.moved (Moved.of_below B0.out))
 have HG:=Hd hG
 have M0:=Hd (Moved.of_below (r:=r) B0.out)
 obtain ⟨q0,_⟩:=one_box X0.out.1
 clear hQ hR hK hG
 go_enter Tryz.func269,Tryz.ntmps269
 go_wp2_with fail
 refine (skip_any r ts d 1 opB _ R0.out).mono ?_
 intro e w1 h
 cases hb:atB 1 opB ts with
 | false =>
   rw [hb] at h
   obtain ⟨rfl,r1,m1⟩:=h
   rw [skip_no hb] at r1
   have R1:=Hd (And.intro r1 (M0.out.trans m1))
   have HB:=Hd hb
   clear r1 m1 hb
   go_wp2_with fail
   exact HQ.out _ _ (post_ok (by unfold argsR;rw [HB.out];rfl) (show TP _ _ (.row (encM .nil)) _ by rw [encM];exact TP.none _ _) R1.out.1 R1.out.2)
 | true =>
   rw [hb] at h
   obtain ⟨rfl,r1,m1⟩:=h
   rw [skip_yes hb] at r1
   have R1:=Hd (And.intro r1 (M0.out.trans m1))
   have X1:=Hd (X0.out.moved m1)
   have D1:=Hd (D0.out.moved m1)
   have HB:=Hd hb
   obtain ⟨q1,_⟩:=one_box X1.out.1
   clear r1 m1 hb q0
   go_wp2_with fail
   refine (serM_any fx w.heap.size (memD fx d) (fun _ _ _ h=>mem_sfx h) r d ts.tail w1 (fun tq wx g _ hx hk hX=>arg1_any fx _ d tq r wx g hd hx hk hX) (HG.out.sub (at_sfx HB.out).1) R1.out.1 D1.out X1.out).mono ?_
   intro e w2 h
   have hA:argsR fx d ts=serR (memD fx d) addM cpB (ts.tail.length+1) .nil ts.tail:=by unfold argsR;rw [HB.out];rfl
   rw [← hA] at h
   have h:=post_up (layR_mono _) R1.out.2 h
   cases hv:argsR fx d ts with
   | error x =>
     rw [hv] at h
     obtain ⟨rfl,m⟩:=of_err h
     exact ⟨rfl,HQ.out _ _ (per hv m)⟩
   | ok p =>
     obtain ⟨l,ts1⟩:=p
     rw [hv] at h
     obtain ⟨⟨v,rfl,hl⟩,r2,m2⟩:=of_ok h
     obtain ⟨A,c,rfl,hl2⟩:=row_open hl
     have F:=Hd (And.intro hl2 (And.intro r2 m2))
     have HV:=Hd hv
     clear h hv hl hl2 r2 m2 hA
     go_wp2_with fail
     exact HQ.out _ _ (post_ok HV.out F.out.1 F.out.2.1 F.out.2.2)
theorem info_D:(Tryz.prog.info? 154).map (fun i=>(i.zero,i.size,i.bytes))=some (some (.agg #[.string ⟨#[]⟩,.slice none 0 0]),2,40):=by kernel_rfl
theorem dirsF_end {fx:Bool} {d g:Nat} {acc:List DirT} {ts:List Tok} (h:atB 1 atmB ts=false):dirsF fx d (g+1) acc ts=.ok (acc,ts):=by rw [dirsF,if_neg (by rw [h];simp)]
theorem dirsF_on {fx:Bool} {d g:Nat} {acc:List DirT} {ts:List Tok} (h:atB 1 atmB ts=true):dirsF fx d (g+1) acc ts=(match nameR ts.tail with
 | none=>.error 2
 | some (n,r) =>
   match argsR fx d r with
   | .error x=>.error x
   | .ok (m,r2)=>dirsF fx d g (acc++[(n,m)]) r2):=by rw [dirsF,if_pos h];rfl
theorem dirs_any (fx:Bool) (d:Nat) (ts:List Tok) (r:Nat) (w:World) (hG:GoodD ts) (hd:d≤16) (hR:Rd w r ts d) (hK:KRd r w):Calls Tryz.prog 215 #[.pointer (some ⟨r,0,none⟩),.bool fx] w (Post r d w (layR (rowOf encD)) (dirsR fx d ts)):=by
 suffices H:∀ Q:Ending→World→Prop,(∀ e w',Post r d w (layR (rowOf encD)) (dirsR fx d ts) e w'→Q e w')→Calls Tryz.prog 215 #[.pointer (some ⟨r,0,none⟩),.bool fx] w Q from H _ (fun _ _ h=>h)
 intro Q hQ
 obtain ⟨i0,hi,hz0,hz1,hz2⟩:=info_parts info_D
 obtain ⟨RES,hRES⟩:∃ RES,dirsR fx d ts=RES:=⟨_,rfl⟩
 rw [hRES] at hQ
 have HQ:=Hd hQ
 have HRES:=Hd hRES
 have hr:=hR.lt
 have hlen:ts.length≤200000:=by obtain ⟨_,_,_,_,h,_⟩:=hR;exact h
 have B0:=Hd (And.intro hR (And.intro hK hG))
 clear hQ hRES hG hR hK
 go_enter Tryz.func215,Tryz.ntmps215
 go_wp2_with fail
 go_loopg [5] (ts.length+1) (fun g out wx=>∃ (acc:List DirT) (tq:List Tok),tq.length+1≤g∧tq.length≤ts.length∧acc.length+tq.length≤200000∧Aside (RTr 154 2 w.heap.size wx out (rowOf encD acc)∧Moved r w wx∧Rd wx r tq d∧KRd r wx∧GoodD tq∧dirsF fx d g acc tq=RES))
 case atStart=>exact ⟨[],ts,Nat.le_refl _,Nat.le_refl _,by simpa using hlen,vaside ⟨RTr.start _ _ _ _,Moved.refl _ _,B0.out.1,B0.out.2.1,B0.out.2.2,HRES.out⟩⟩
 case round =>
  obtain ⟨acc,tq,hq,hql,hal,HA⟩:=hrel
  obtain ⟨hrt,hmx,hrx,hkx,hgx,hex⟩:=HA.out
  obtain ⟨Ao,co,rfl⟩:=hrt.shape
  have KX:=Hd (And.intro hmx (And.intro hrx hkx))
  have GX:=Hd hgx
  have EX:=Hd hex
  have HRT:=Hd hrt
  clear HA hmx hrx hkx hgx hex hrt
  cases gk with
  | zero=>omega
  | succ g =>
    go_wp2_with fail
    refine (skip_any r tq d 1 atmB _ KX.out.2.1).mono ?_
    intro e w1 h
    cases hb:atB 1 atmB tq with
    | false =>
      rw [hb] at h
      obtain ⟨rfl,r1,m1⟩:=h
      rw [skip_no hb] at r1
      have hE:=EX.out
      rw [dirsF_end hb] at hE
      have T5:=Hd ((HRT.out.moved m1 hr).fin (by rw [rowOf_len];omega))
      have R1:=Hd (And.intro r1 (KX.out.1.trans m1))
      have E5:=Hd hE
      clear r1 m1 hE hb
      go_wp2_with fail
      exact HQ.out _ _ (post_ok E5.out.symm T5.out R1.out.1 R1.out.2)
    | true =>
      rw [hb] at h
      obtain ⟨rfl,r1,m1⟩:=h
      rw [skip_yes hb] at r1
      have hE:=EX.out
      rw [dirsF_on hb] at hE
      have G1:=Hd (GX.out.sub (at_sfx hb).1)
      have hl1:=(at_sfx hb).2
      have R1:=Hd (And.intro r1 m1)
      have E1:=Hd hE
      clear r1 m1 hE hb
      go_wp2_with fail
      refine (pname_any r tq.tail d _ R1.out.1).mono ?_
      intro e w2 h
      cases hn:nameR tq.tail with
      | none =>
        rw [hn] at h
        obtain ⟨rfl,m⟩:=h
        have hE:=E1.out
        rw [hn] at hE
        exact ⟨rfl,HQ.out _ _ (per hE.symm ((KX.out.1.trans R1.out.2).trans m))⟩
      | some p =>
        obtain ⟨nm,tq2⟩:=p
        rw [hn] at h
        obtain ⟨rfl,r2,m2⟩:=h
        have hE:=E1.out
        rw [hn] at hE
        simp only at hE
        have G2:=Hd (G1.out.sub (name_sfx hn).1)
        have hl2:=(name_sfx hn).2
        have hnm:=Hd (G1.out.name hn)
        have R2:=Hd (And.intro r2 (R1.out.2.trans m2))
        have E2:=Hd hE
        clear r2 m2 hE hn
        go_wp2_with fail
        refine (args_any fx d tq2 r _ G2.out hd R2.out.1 (KX.out.2.2.moved R2.out.2)).mono ?_
        intro e w3 h
        cases hv:argsR fx d tq2 with
        | error x =>
          rw [hv] at h
          obtain ⟨rfl,m⟩:=of_err h
          have hE:=E2.out
          rw [hv] at hE
          exact ⟨rfl,HQ.out _ _ (per hE.symm ((KX.out.1.trans R2.out.2).trans m))⟩
        | ok p =>
          obtain ⟨l,tq3⟩:=p
          rw [hv] at h
          obtain ⟨⟨v,rfl,hl⟩,r3,m3⟩:=of_ok h
          obtain ⟨A,c,rfl,hl2'⟩:=row_open hl
          have hE:=E2.out
          rw [hv] at hE
          simp only at hE
          have hl3:=(args_sfx hv).length_le
          have G3:=Hd (G2.out.sub (args_sfx hv))
          have M3:=Hd (R2.out.2.trans m3)
          have R3:=Hd r3
          have E3:=Hd hE
          have T3:=Hd (TS.str hnm.out (TS.row (TP.keep (fun b hb=>⟨⟨Nat.le_trans R2.out.2.size hb.1,hb.2⟩,rfl⟩) _ _ hl2') (TS.nil _ _)):TS w3 (Fresh wr w3) (encD (nm,l)) [.string nm,.slice A (encM l).len c])
          have hs3:=M3.out.size
          have hs0:=KX.out.1.size
          obtain ⟨xs,P,hown,hvals,hP⟩:=HRT.out
          have HOW:=Hd (And.intro hown (And.intro hvals hP))
          have O3:=Hd (own_moved hown M3.out hr)
          clear h hv hl hl2' r3 m3 hE hown hvals hP
          go_wp2_with (at_builtin;refine wpList_append_lies _ rfl _ _ 48 rfl w.heap.size 154 i0 (.agg #[.string ⟨#[]⟩,.slice none 0 0]) 2 40 Tryz.underlying48 hi hz0 hz1 hz2 rfl (by decide) _ (rowOf encD acc).len xs rfl (own_low O3.out (blw _ _)) _ 1 1 [.string nm,.slice A (encM l).len c] rfl rfl (fun j u hj=>World.news_of_block (heap_alloc_new _ _) j u hj) (by intro y hy;simp at hy;rcases hy with rfl|rfl<;>rfl) (by decide) (by unfold maxLen;rw [rowOf_len];omega) (by rw [rowOf_len];omega) (by simp;omega) _ rfl ?_;intro gg cap2 w4 hown4 hgrow hat hlt4;have HG4:=Hd hgrow;have HO4:=Hd hown4;have HT4:=Hd hat;clear hgrow hown4 hat)
          have hgk:=grown_keep HG4.out (r:=r) (fun b hb=>by have:=(HOW.out.1.lt b hb).1;omega)
          have R4:=hgk.1 _ _ (R3.out.below (blw _ _))
          have D4:=hgk.2 ((KX.out.2.2.moved M3.out).moved (Moved.of_below (blw _ _)))
          have M4:Moved r w w4:=by
           have m:=(KX.out.1.trans M3.out).trans (Moved.of_below (blw _ (.cells #[.string nm,.slice A (encM l).len c] 154)))
           exact ⟨HG4.out.os.trans m.os,HG4.out.tape.trans m.tape,HG4.out.output.trans m.output,Nat.le_trans m.size HG4.out.size,fun k hk hn=>(HG4.out.block k (Nat.lt_of_lt_of_le hk m.size) (fun e=>by have:=(HOW.out.1.lt k e.symm).1;omega)).trans (m.block k hk hn)⟩
          have T4:=RTr.app hr (by omega) HOW.out.1 HOW.out.2.1 HOW.out.2.2 M3.out (TS.keep (fun _ hk=>⟨⟨hk.1,hk.2⟩,rfl⟩) _ _ T3.out) HO4.out HG4.out HT4.out
          go_roundg g
          case measure=>omega
          case rel=>exact ⟨acc++[(nm,l)],tq3,by omega,by omega,by rw [List.length_append];simp;omega,vaside ⟨by rw [rowOf_snoc];exact T4,M4,R4,D4,G3.out,E3.out⟩⟩
theorem zero_ts (w:World) (P:Nat→Prop):TS w P (encV zeroT) [.int .i64 0,.int .i64 0,.string ⟨#[]⟩,.slice none 0 0,.slice none 0 0]:=vp_ts _ _ _ _ _ _ (flat_vp w P 0 0 eB (Nat.zero_le _))
def paramR (d:Nat) (ts:List Tok):Except Int (VarT × List Tok):=
 match nameR ts with
 | none=>.error 2
 | some (n,r) =>
   if atB 1 colB r=true then
    match typeR 4 r.tail with
    | .error x=>.error x
    | .ok (t,r2) =>
      if atB 1 eqB r2=true then
       match valD true d r2.tail with
       | .error x=>.error x
       | .ok (v,r3)=>.ok (⟨n,t.1,t.2.1,t.2.2,true,v⟩,r3)
      else .ok (⟨n,t.1,t.2.1,t.2.2,false,zeroT⟩,r2)
   else .error 2
theorem param_sfx {d:Nat} {ts r:List Tok} {x:VarT} (h:paramR d ts=.ok (x,r)):Sfx r ts:=by
 unfold paramR at h
 cases hn:nameR ts with
 | none=>rw [hn] at h;cases h
 | some q =>
   obtain ⟨n,r1⟩:=q
   rw [hn] at h
   simp only at h
   split at h
   · rename_i hc
     cases ht:typeR 4 r1.tail with
     | error x=>rw [ht] at h;cases h
     | ok q =>
       obtain ⟨t,r2⟩:=q
       rw [ht] at h
       simp only at h
       have h0:=((typ_sfx _ _ _ _ ht).trans (at_sfx hc)).trans (name_sfx hn)
       split at h
       · rename_i he
         cases hv:valD true d r2.tail with
         | error x=>rw [hv] at h;cases h
         | ok q =>
           obtain ⟨v,r3⟩:=q
           rw [hv] at h
           have e:=(Prod.mk.inj (Except.ok.inj h)).2
           subst e
           exact ((val_sfx hv).trans (at_sfx he)).trans h0
       · have e:=(Prod.mk.inj (Except.ok.inj h)).2
         subst e
         exact h0
   · cases h
theorem param_any (d:Nat) (ts:List Tok) (r:Nat) (w:World) (hG:GoodD ts) (hd:d≤16) (hR:Rd w r ts d) (hK:KRd r w):Calls Tryz.prog 270 #[.pointer (some ⟨r,0,none⟩)] w (Post r d w (layS encVar) (paramR d ts)):=by
 suffices H:∀ Q:Ending→World→Prop,(∀ e w',Post r d w (layS encVar) (paramR d ts) e w'→Q e w')→Calls Tryz.prog 270 #[.pointer (some ⟨r,0,none⟩)] w Q from H _ (fun _ _ h=>h)
 intro Q hQ
 have HQ:=Hd hQ
 have K0:=Hd (S0.start hR hK #[.string ⟨#[]⟩,.string ⟨#[]⟩,.int .i64 0,.int .i64 0,.bool false,.int .i64 0,.int .i64 0,.string ⟨#[]⟩,.slice none 0 0,.slice none 0 0] 203)
 have G0:=Hd hG
 clear hQ hR hK hG
 go_enter Tryz.func270,Tryz.ntmps270
 go_wp2_with fail
 refine (pname_any r (ts) d _ K0.out.rd).mono ?_
 intro e w1 h
 cases hn:nameR (ts) with
 | none =>
   rw [hn] at h
   obtain ⟨rfl,m⟩:=h
   exact ⟨rfl,HQ.out _ _ (per (by simp only [paramR,hn]) (K0.out.mv.trans m))⟩
 | some p =>
   obtain ⟨nm,tn1⟩:=p
   rw [hn] at h
   obtain ⟨rfl,rr,mm⟩:=h
   have Nnm:=Hd (G0.out.name hn)
   have G2:=Hd (G0.out.sub (name_sfx hn).1)
   have E3:=Hd hn
   have K4:=Hd (K0.out.next rr mm)
   clear rr mm hn
   go_wp2_with fail
   have K5:=Hd (S1.make K4.out #[.string nm,.string ⟨#[]⟩,.int .i64 0,.int .i64 0,.bool false,.int .i64 0,.int .i64 0,.string ⟨#[]⟩,.slice none 0 0,.slice none 0 0] 203)
   refine (need_any r tn1 d 1 colB _ K5.out.rd).mono ?_
   intro e w6 h
   cases hb:atB 1 colB tn1 with
   | false =>
     rw [hb] at h
     simp only [Bool.false_eq_true,if_false] at h
     obtain ⟨rfl,m⟩:=h
     exact ⟨rfl,HQ.out _ _ (per (by simp only [paramR,E3.out,hb,if_false,Bool.false_eq_true]) (K5.out.mv.trans m))⟩
   | true =>
     rw [hb] at h
     simp only [if_true] at h
     obtain ⟨rfl,rr,mm⟩:=h
     have G7:=Hd (G2.out.sub (at_sfx hb).1)
     have E8:=Hd hb
     have K9:=Hd (K5.out.next rr mm)
     clear rr mm hb
     go_wp2_with fail
     refine (wrapped_any tn1.tail G7.out.2 r d _ K9.out.rd).mono ?_
     intro e w10 h
     cases hv:typeR 4 (tn1.tail) with
     | error x =>
       rw [hv] at h
       obtain ⟨rfl,m⟩:=id h
       exact ⟨rfl,HQ.out _ _ (per (by simp only [paramR,E3.out,E8.out,hv,if_true]) (K9.out.mv.trans m))⟩
     | ok p =>
       obtain ⟨⟨tn,tl,tm⟩,tp10⟩:=p
       rw [hv] at h
       obtain ⟨rfl,rr,mm⟩:=h
       have NT:=Hd (type_right 4 _ G7.out.2 _ _ _ _ hv).2.1
       have G11:=Hd (G7.out.sub (typ_sfx 4 _ _ _ hv).1)
       have K12:=Hd (K9.out.next rr mm)
       have E13:=Hd hv
       clear rr mm hv
       obtain ⟨y0,y1,y2,y3,y4,y5,y6,y7,y8,y9,yz⟩:=ten_cells K12.out.loc
       have yf0:=yz 0
       have yf1:=yz 1
       have yf2:=yz 2
       have yf3:=yz 3
       have yf4:=yz 4
       have yf5:=yz 5
       have yf6:=yz 6
       have yf7:=yz 7
       have yf8:=yz 8
       have yf9:=yz 9
       clear yz
       go_wp2_with fail
       clear y0 y1 y2 y3 y4 y5 y6 y7 y8 y9 yf0 yf1 yf2 yf3 yf4 yf5 yf6 yf7 yf8 yf9
       have K14:Hid (S1 w r (((w10.setCell ⟨w1.heap.size,1,none⟩ (.string tn)).setCell ⟨w1.heap.size,2,none⟩ (.int .i64 (tl:Int))).setCell ⟨w1.heap.size,3,none⟩ (.int .i64 (tm:Int))) _ (w1.heap.size) (.cells #[.string nm,.string tn,.int .i64 (tl:Int),.int .i64 (tm:Int),.bool false,.int .i64 0,.int .i64 0,.string ⟨#[]⟩,.slice none 0 0,.slice none 0 0] 203 (0,0)) _ d):=Hd (((K12.out.put 1 (.string tn)).put 2 (.int .i64 (tl:Int))).put 3 (.int .i64 (tm:Int)))
       refine (skip_any r tp10 d 1 eqB _ K14.out.rd).mono ?_
       intro e w15 h
       cases hb:atB 1 eqB tp10 with
       | true =>
         rw [hb] at h
         obtain ⟨rfl,rr,mm⟩:=h
         rw [skip_yes hb] at rr
         have G16:=Hd (G11.out.sub (at_sfx hb).1)
         have E17:=Hd hb
         have K18:=Hd (K14.out.next rr mm)
         clear rr mm hb
         obtain ⟨y0,y1,y2,y3,y4,y5,y6,y7,y8,y9,yz⟩:=ten_cells K18.out.loc
         have yf0:=yz 0
         have yf1:=yz 1
         have yf2:=yz 2
         have yf3:=yz 3
         have yf4:=yz 4
         have yf5:=yz 5
         have yf6:=yz 6
         have yf7:=yz 7
         have yf8:=yz 8
         have yf9:=yz 9
         clear yz
         go_wp2_with fail
         clear y0 y1 y2 y3 y4 y5 y6 y7 y8 y9 yf0 yf1 yf2 yf3 yf4 yf5 yf6 yf7 yf8 yf9
         have K19:Hid (S1 w r (w15.setCell ⟨w1.heap.size,4,none⟩ (.bool true)) _ (w1.heap.size) (.cells #[.string nm,.string tn,.int .i64 (tl:Int),.int .i64 (tm:Int),.bool true,.int .i64 0,.int .i64 0,.string ⟨#[]⟩,.slice none 0 0,.slice none 0 0] 203 (0,0)) _ d):=Hd (K18.out.put 4 (.bool true))
         refine (val_post true d (tp10.tail) r _ G16.out hd K19.out.rd K19.out.k).mono ?_
         intro e w20 h
         cases hv:valD true d (tp10.tail) with
         | error x =>
           rw [hv] at h
           obtain ⟨rfl,m⟩:=of_err h
           exact ⟨rfl,HQ.out _ _ (per (by simp only [paramR,E3.out,E8.out,E13.out,E17.out,hv,if_true]) (K19.out.mv.trans m))⟩
         | ok p =>
           obtain ⟨v0,tp20⟩:=p
           rw [hv] at h
           obtain ⟨⟨v,rfl,hl⟩,rr,mm⟩:=of_ok h
           obtain ⟨vk,vn,vs,A3,n3,k3,A4,n4,k4,rfl,hts⟩:=val_open hl
           have G21:=Hd (G16.out.sub (val_sfx hv).1)
           have K22:=Hd (K19.out.next rr mm)
           have O23:=Hd (OvS.of hts K19.out.blt)
           have E24:=Hd hv
           clear rr mm hv hl hts h
           obtain ⟨y0,y1,y2,y3,y4,y5,y6,y7,y8,y9,yz⟩:=ten_cells K22.out.loc
           have yf0:=yz 0
           have yf1:=yz 1
           have yf2:=yz 2
           have yf3:=yz 3
           have yf4:=yz 4
           have yf5:=yz 5
           have yf6:=yz 6
           have yf7:=yz 7
           have yf8:=yz 8
           have yf9:=yz 9
           clear yz
           go_upto_region 7 with fail
           clear y0 y1 y2 y3 y4 y5 y6 y7 y8 y9 yf0 yf1 yf2 yf3 yf4 yf5 yf6 yf7 yf8 yf9
           have K25:Hid (S1 w r (((((w20.setCell ⟨w1.heap.size,5,none⟩ (.int .i64 vk)).setCell ⟨w1.heap.size,6,none⟩ (.int .i64 vn)).setCell ⟨w1.heap.size,7,none⟩ (.string vs)).setCell ⟨w1.heap.size,8,none⟩ (.slice A3 n3 k3)).setCell ⟨w1.heap.size,9,none⟩ (.slice A4 n4 k4)) _ (w1.heap.size) (.cells #[.string nm,.string tn,.int .i64 (tl:Int),.int .i64 (tm:Int),.bool true,.int .i64 vk,.int .i64 vn,.string vs,.slice A3 n3 k3,.slice A4 n4 k4] 203 (0,0)) _ d):=Hd (((((K22.out.put 5 (.int .i64 vk)).put 6 (.int .i64 vn)).put 7 (.string vs)).put 8 (.slice A3 n3 k3)).put 9 (.slice A4 n4 k4))
           have O26:Hid (OvS (w1.heap.size) (((((w20.setCell ⟨w1.heap.size,5,none⟩ (.int .i64 vk)).setCell ⟨w1.heap.size,6,none⟩ (.int .i64 vn)).setCell ⟨w1.heap.size,7,none⟩ (.string vs)).setCell ⟨w1.heap.size,8,none⟩ (.slice A3 n3 k3)).setCell ⟨w1.heap.size,9,none⟩ (.slice A4 n4 k4)) _ _):=Hd (((((O23.out.put (i:=5) (v:=.int .i64 vk) (Nat.le_refl _)).put (i:=6) (v:=.int .i64 vn) (Nat.le_refl _)).put (i:=7) (v:=.string vs) (Nat.le_refl _)).put (i:=8) (v:=.slice A3 n3 k3) (Nat.le_refl _)).put (i:=9) (v:=.slice A4 n4 k4) (Nat.le_refl _))
           generalize (((((w20.setCell ⟨w1.heap.size,5,none⟩ (.int .i64 vk)).setCell ⟨w1.heap.size,6,none⟩ (.int .i64 vn)).setCell ⟨w1.heap.size,7,none⟩ (.string vs)).setCell ⟨w1.heap.size,8,none⟩ (.slice A3 n3 k3)).setCell ⟨w1.heap.size,9,none⟩ (.slice A4 n4 k4))=wz27 at K25 O26 ⊢
           obtain ⟨y0,y1,y2,y3,y4,y5,y6,y7,y8,y9,yz⟩:=ten_cells K25.out.loc
           have yf0:=yz 0
           have yf1:=yz 1
           have yf2:=yz 2
           have yf3:=yz 3
           have yf4:=yz 4
           have yf5:=yz 5
           have yf6:=yz 6
           have yf7:=yz 7
           have yf8:=yz 8
           have yf9:=yz 9
           clear yz
           obtain ⟨x0,x1,x2,x3,x4,x5,x6,x7,x8,x9,xz⟩:=ten_cells K25.out.res
           have xf0:=xz 0
           have xf1:=xz 1
           have xf2:=xz 2
           have xf3:=xz 3
           have xf4:=xz 4
           have xf5:=xz 5
           have xf6:=xz 6
           have xf7:=xz 7
           have xf8:=xz 8
           have xf9:=xz 9
           clear xz
           go_wp2_with fail
           clear y0 y1 y2 y3 y4 y5 y6 y7 y8 y9 yf0 yf1 yf2 yf3 yf4 yf5 yf6 yf7 yf8 yf9 x0 x1 x2 x3 x4 x5 x6 x7 x8 x9 xf0 xf1 xf2 xf3 xf4 xf5 xf6 xf7 xf8 xf9
           obtain ⟨f1,f2,f3⟩:=S1.fin (ys:=[.string ⟨#[]⟩,.string ⟨#[]⟩,.int .i64 0,.int .i64 0,.bool false,.int .i64 0,.int .i64 0,.string ⟨#[]⟩,.slice none 0 0,.slice none 0 0]) K25.out [.string nm,.string tn,.int .i64 (tl:Int),.int .i64 (tm:Int),.bool true,.int .i64 vk,.int .i64 vn,.string vs,.slice A3 n3 k3,.slice A4 n4 k4] rfl
           have Fv:=O26.out.fin (w:=w) (Nat.le_of_lt K25.out.bl) [.string nm,.string tn,.int .i64 (tl:Int),.int .i64 (tm:Int),.bool true,.int .i64 vk,.int .i64 vn,.string vs,.slice A3 n3 k3,.slice A4 n4 k4]
           have FP:=HQ.out _ _ (post_ok (a:=⟨nm,tn,tl,tm,true,v0⟩) (by simp only [paramR,E3.out,E8.out,E13.out,E17.out,E24.out,if_true]) ⟨[.string nm,.string tn,.int .i64 (tl:Int),.int .i64 (tm:Int),.bool true,.int .i64 vk,.int .i64 vn,.string vs,.slice A3 n3 k3,.slice A4 n4 k4],rfl,TS.str Nnm.out (TS.str NT.out (TS.int (TS.int (TS.bool Fv))))⟩ f2 f3)
           exact ret_st rfl rfl rfl f1 Tryz.underlying203 ⟨_,rfl⟩ (by kernel_rfl) FP
       | false =>
         rw [hb] at h
         obtain ⟨rfl,rr,mm⟩:=h
         rw [skip_no hb] at rr
         have E28:=Hd hb
         have K29:=Hd (K14.out.next rr mm)
         clear rr mm hb
         obtain ⟨y0,y1,y2,y3,y4,y5,y6,y7,y8,y9,yz⟩:=ten_cells K29.out.loc
         have yf0:=yz 0
         have yf1:=yz 1
         have yf2:=yz 2
         have yf3:=yz 3
         have yf4:=yz 4
         have yf5:=yz 5
         have yf6:=yz 6
         have yf7:=yz 7
         have yf8:=yz 8
         have yf9:=yz 9
         clear yz
         obtain ⟨x0,x1,x2,x3,x4,x5,x6,x7,x8,x9,xz⟩:=ten_cells K29.out.res
         have xf0:=xz 0
         have xf1:=xz 1
         have xf2:=xz 2
         have xf3:=xz 3
         have xf4:=xz 4
         have xf5:=xz 5
         have xf6:=xz 6
         have xf7:=xz 7
         have xf8:=xz 8
         have xf9:=xz 9
         clear xz
         go_wp2_with fail
         clear y0 y1 y2 y3 y4 y5 y6 y7 y8 y9 yf0 yf1 yf2 yf3 yf4 yf5 yf6 yf7 yf8 yf9 x0 x1 x2 x3 x4 x5 x6 x7 x8 x9 xf0 xf1 xf2 xf3 xf4 xf5 xf6 xf7 xf8 xf9
         obtain ⟨f1,f2,f3⟩:=S1.fin (ys:=[.string ⟨#[]⟩,.string ⟨#[]⟩,.int .i64 0,.int .i64 0,.bool false,.int .i64 0,.int .i64 0,.string ⟨#[]⟩,.slice none 0 0,.slice none 0 0]) K29.out [.string nm,.string tn,.int .i64 (tl:Int),.int .i64 (tm:Int),.bool false,.int .i64 0,.int .i64 0,.string ⟨#[]⟩,.slice none 0 0,.slice none 0 0] rfl
         have FP:=HQ.out _ _ (post_ok (a:=⟨nm,tn,tl,tm,false,zeroT⟩) (by simp only [paramR,E3.out,E8.out,E13.out,E28.out,if_true,if_false,Bool.false_eq_true]) ⟨[.string nm,.string tn,.int .i64 (tl:Int),.int .i64 (tm:Int),.bool false,.int .i64 0,.int .i64 0,.string ⟨#[]⟩,.slice none 0 0,.slice none 0 0],rfl,TS.str Nnm.out (TS.str NT.out (TS.int (TS.int (TS.bool (zero_ts _ _)))))⟩ f2 f3)
         exact ret_st rfl rfl rfl f1 Tryz.underlying203 ⟨_,rfl⟩ (by kernel_rfl) FP
end Go.Proofs.YtkacnnhdfkpenaaGreatDoor
