/- The landed selections, whole. -/
import Derived.Test.YtpkmbhnikilihaaGreatDoorQv25
set_option maxRecDepth 100000
set_option maxHeartbeats 8000000
namespace Go.Proofs.YtpkmbhnikilihaaGreatDoor
open Go.RowKit
theorem selections_step (f d:Nat) (ts:List Tok) (r:Nat) (w:World) (HC:∀ tq wx,GoodD tq→tq.length < ts.length→d+1≤16→Rd wx r tq (d+1)→KRd r wx→Calls Tryz.prog 172 #[.pointer (some ⟨r,0,none⟩)] wx (Post r (d+1) wx (layS encS) (selR f (d+1) tq)))
   (hG:GoodD ts) (hd:d≤16) (hR:Rd w r ts d) (hK:KRd r w):Calls Tryz.prog 96 #[.pointer (some ⟨r,0,none⟩)] w (Post r d w (layR encSL) (selsR (f+1) d ts)):=by
 suffices H:∀ Q:Ending→World→Prop,(∀ e w',Post r d w (layR encSL) (selsR (f+1) d ts) e w'→Q e w')→Calls Tryz.prog 96 #[.pointer (some ⟨r,0,none⟩)] w Q from H _ (fun _ _ h=>h)
 intro Q hQ
 have hmf:∀ (fn:Fn) (first cap:Array Value) (w:World),(Instr.makeFunc fn first cap).run Tryz.prog w=.ok (.func fn first cap) w:=fun _ _ _ _=>rfl
 have HQ:=Hd hQ
 have HCC:=Hd HC
 have B0:=Hd (And.intro hR (And.intro hK hG))
 clear hQ hR hK hG HC
 go_enter Tryz.func96,Tryz.ntmps96
 go_wp2_with fail
 refine (enter_any r ts d omB _ (by omega) B0.out.1).mono ?_
 intro e w1 h
 cases hb:atB 1 omB ts with
 | false =>
   rw [hb] at h
   simp only [Bool.false_eq_true,if_false] at h
   obtain ⟨rfl,m⟩:=h
   exact ⟨rfl,HQ.out _ _ (per (by rw [selsR,hb];rfl) m)⟩
 | true =>
   rw [hb] at h
   simp only [if_true] at h
   by_cases h16:d=16
   · rw [if_pos h16] at h
     obtain ⟨rfl,m⟩:=h
     exact ⟨rfl,HQ.out _ _ (per (by rw [selsR,hb,if_pos rfl,if_pos h16]) m)⟩
   · rw [if_neg h16] at h
     obtain ⟨rfl,rr,mm⟩:=h
     have hl:=(at_sfx hb).2
     have R1:=Hd (And.intro rr mm)
     have G1:=Hd (B0.out.2.2.sub (at_sfx hb).1)
     have E1:=Hd (show selsR (f+1) d ts=serR (selR f (d+1)) addS cmB (ts.tail.length+1) .nil ts.tail by rw [selsR,hb,if_pos rfl,if_neg h16])
     have D1:=Hd (B0.out.2.1.moved mm)
     clear rr mm hb
     go_wp2_with fail
     refine (serS_any (selR f (d+1)) (fun _ _ _ h=>(sels_all f).2 _ _ _ _ h) r (d+1) ts.tail w1 (fun tq wx g l hx hk _=>HCC.out tq wx g (by omega) (by omega) hx hk) G1.out R1.out.1 D1.out trivial).mono ?_
     intro e w2 h
     rw [← E1.out] at h
     cases hv:selsR (f+1) d ts with
     | error x =>
       rw [hv] at h
       obtain ⟨rfl,m⟩:=of_err h
       exact ⟨rfl,HQ.out _ _ (per hv (R1.out.2.trans m))⟩
     | ok p =>
       obtain ⟨l,ts2⟩:=p
       rw [hv] at h
       obtain ⟨⟨v,rfl,hly⟩,r2,m2⟩:=of_ok h
       obtain ⟨A,c,rfl,hl2⟩:=row_open hly
       have F:=Hd (And.intro hl2 (And.intro r2 m2))
       have HV:=Hd hv
       clear h hv hly hl2 r2 m2
       go_wp2_with fail
       refine (leave_any r ts2 d _ (by omega) F.out.2.1).mono ?_
       rintro e w3 ⟨rfl,r3,m3⟩
       have hr:=B0.out.1.lt
       have hs1:=R1.out.2.size
       have M3:=Hd ((R1.out.2.trans F.out.2.2).trans m3)
       have T3:=Hd (show TP w3 (Fresh w w3) (.row (encSL l)) (.slice A (encSL l).len c) from TP.keep (fun k hk=>⟨⟨Nat.le_trans hs1 hk.1,Nat.lt_of_lt_of_le hk.2 m3.size⟩,m3.block k hk.2 (fun e=>by have:=hk.1;injection e;omega)⟩) _ _ F.out.1)
       have R3:=Hd r3
       clear r3 m3
       go_wp2_with fail
       exact HQ.out _ _ (post_ok HV.out T3.out R3.out M3.out)
theorem sel_all:∀ f:Nat,(∀ (d:Nat) (ts:List Tok) (r:Nat) (w:World),2*ts.length+1≤f→GoodD ts→d≤16→Rd w r ts d→KRd r w→Calls Tryz.prog 96 #[.pointer (some ⟨r,0,none⟩)] w (Post r d w (layR encSL) (selsR f d ts))) ∧
   (∀ (d:Nat) (ts:List Tok) (r:Nat) (w:World),2*ts.length+2≤f→GoodD ts→d≤16→Rd w r ts d→KRd r w→Calls Tryz.prog 172 #[.pointer (some ⟨r,0,none⟩)] w (Post r d w (layS encS) (selR f d ts))):=by
 intro f
 induction f with
 | zero=>exact ⟨fun _ _ _ _ h=>by omega,fun _ _ _ _ h=>by omega⟩
 | succ f ih =>
   obtain ⟨i1,i2⟩:=ih
   refine ⟨fun d ts r w h hG hd hR hK=>selections_step f d ts r w (fun tq wx g l hd hx hk=>i2 (d+1) tq r wx (by omega) g hd hx hk) hG hd hR hK,fun d ts r w h hG hd hR hK=>?_⟩
   rw [selR]
   exact selection_one (selsR f d) (fun _ _ _ h=>(sels_all f).1 _ _ _ _ h) d ts r w (fun tq wx g l hx hk=>i1 d tq r wx (by omega) g hd hx hk) hG hd hR hK
theorem sels_any (d:Nat) (ts:List Tok) (r:Nat) (w:World) (hG:GoodD ts) (hd:d≤16) (hR:Rd w r ts d) (hK:KRd r w):Calls Tryz.prog 96 #[.pointer (some ⟨r,0,none⟩)] w (Post r d w (layR encSL) (selsD d ts)):=by
 have:=(sel_all (2*ts.length+1)).1 d ts r w (Nat.le_refl _) hG hd hR hK
 rwa [show selsR (2*ts.length+1) d ts=selsD d ts from ((sels_fuel _).1 _ _ _ (Nat.lt_succ_self _) (by omega)).symm] at this
theorem gfv_cells {w:World} {b:Nat} {z0 z1 z2 z3 z4:Value} {t:TypeId} (h:w.heap[b]? = some (.cells #[z0,z1,z2,z3,z4] t (0,0))):w.cell? ⟨b,0,none⟩=some z0∧w.cell? ⟨b,1,none⟩=some z1∧w.cell? ⟨b,2,none⟩=some z2∧w.cell? ⟨b,3,none⟩=some z3∧w.cell? ⟨b,4,none⟩=some z4∧∀ i,w.frozen? ⟨b,i,none⟩=false:=by
 refine ⟨?_,?_,?_,?_,?_,fun i=>?_⟩
 all_goals first|(simp only [World.cell?,h];rfl)|simp [World.frozen?,h]
theorem op_any (k:Int) (d:Nat) (ts:List Tok) (r:Nat) (w:World) (hG:GoodD ts) (hd:d≤16) (hR:Rd w r ts d) (hK:KRd r w):Calls Tryz.prog 98 #[.pointer (some ⟨r,0,none⟩),.int .i64 k] w (Post r d w (layS encOp) (opR k d ts)):=by
 suffices H:∀ Q:Ending→World→Prop,(∀ e w',Post r d w (layS encOp) (opR k d ts) e w'→Q e w')→Calls Tryz.prog 98 #[.pointer (some ⟨r,0,none⟩),.int .i64 k] w Q from H _ (fun _ _ h=>h)
 intro Q hQ
 have HQ:=Hd hQ
 have hmf:∀ (fn:Fn) (first cap:Array Value) (w:World),(Instr.makeFunc fn first cap).run Tryz.prog w=.ok (.func fn first cap) w:=fun _ _ _ _=>rfl
 have K0:=Hd (S0.start hR hK #[.int .i64 0,.string ⟨#[]⟩,.slice none 0 0,.slice none 0 0,.slice none 0 0] 68)
 have G0:=Hd hG
 clear hQ hR hK hG
 go_enter Tryz.func98,Tryz.ntmps98
 go_wp2_with fail
 have K1:=Hd (S1.make1 K0.out #[.int .i64 k,.string ⟨#[]⟩,.slice none 0 0,.slice none 0 0,.slice none 0 0] 68)
 refine (atWord_any r ts d _ K1.out.rd).mono ?_
 intro e w2 h
 cases hb:wordB ts with
 | true =>
   rw [hb] at h
   obtain ⟨rfl,rfl⟩:=h
   obtain ⟨nm3,nt3,hn3⟩:=word_some hb
   have E4:=Hd hn3
   clear hb hn3
   go_wp2_with fail
   refine (pname_any r (ts) d _ K1.out.rd).mono ?_
   intro e w5 h
   rw [E4.out] at h
   obtain ⟨rfl,rr,mm⟩:=h
   have Nnm3:=Hd (G0.out.name E4.out)
   have G6:=Hd (G0.out.sub (name_sfx E4.out).1)
   have K7:=Hd (K1.out.next rr mm)
   clear rr mm
   obtain ⟨y0,y1,y2,y3,y4,yz⟩:=gfv_cells K7.out.loc
   have yf0:=yz 0
   have yf1:=yz 1
   have yf2:=yz 2
   have yf3:=yz 3
   have yf4:=yz 4
   clear yz
   go_wp2_with fail
   clear y0 y1 y2 y3 y4 yf0 yf1 yf2 yf3 yf4
   have K8:Hid (S1 w r (w5.setCell ⟨w.heap.size+1,1,none⟩ (.string nm3)) _ (w.heap.size+1) (.cells #[.int .i64 k,.string nm3,.slice none 0 0,.slice none 0 0,.slice none 0 0] 68 (0,0)) _ d):=Hd (K7.out.put 1 (.string nm3))
   generalize (w5.setCell ⟨w.heap.size+1,1,none⟩ (.string nm3))=wz9 at K8 ⊢
   refine (skip_any r nt3 d 1 opB _ K8.out.rd).mono ?_
   intro e w10 h
   cases hb:atB 1 opB nt3 with
   | true =>
     rw [hb] at h
     obtain ⟨rfl,rr,mm⟩:=h
     rw [skip_yes hb] at rr
     have G11:=Hd (G6.out.sub (at_sfx hb).1)
     have E12:=Hd hb
     have K13:=Hd (K8.out.next rr mm)
     clear rr mm hb
     go_wp2_with fail
     refine (serV_any (varR d) (fun _ _ _ h=>var_sfx h) r d (nt3.tail) _ (fun tq wx g _ hx hk _=>variable_any d tq r wx g hd hx hk) G11.out K13.out.rd K13.out.k trivial).mono ?_
     intro e w14 h
     cases hv:serR (varR d) addL cpB (((nt3.tail)).length+1) [] (nt3.tail) with
     | error x =>
       rw [hv] at h
       obtain ⟨rfl,m⟩:=of_err h
       exact ⟨rfl,HQ.out _ _ (per (by simp only [opR,opRest,varsR,E4.out,E12.out,hv,if_true]) (K13.out.mv.trans m))⟩
     | ok p =>
       obtain ⟨vs,tp14⟩:=p
       rw [hv] at h
       obtain ⟨⟨v,rfl,hl⟩,rr,mm⟩:=of_ok h
       obtain ⟨A2,kA2,rfl,hts⟩:=row_open hl
       have G15:=Hd (G11.out.sub (ser_sfx (fun _ _ _ h=>var_sfx h) _ _ _ _ _ hv).1)
       have K16:=Hd (K13.out.next rr mm)
       have O17:=Hd (Ov.of hts K13.out.blt)
       have E18:=Hd hv
       clear rr mm hv hl hts h
       obtain ⟨y0,y1,y2,y3,y4,yz⟩:=gfv_cells K16.out.loc
       have yf0:=yz 0
       have yf1:=yz 1
       have yf2:=yz 2
       have yf3:=yz 3
       have yf4:=yz 4
       clear yz
       go_wp2_with fail
       clear y0 y1 y2 y3 y4 yf0 yf1 yf2 yf3 yf4
       have K19:Hid (S1 w r (w14.setCell ⟨w.heap.size+1,2,none⟩ (.slice A2 (rowOf encVar vs).len kA2)) _ (w.heap.size+1) (.cells #[.int .i64 k,.string nm3,.slice A2 (rowOf encVar vs).len kA2,.slice none 0 0,.slice none 0 0] 68 (0,0)) _ d):=Hd (K16.out.put 2 (.slice A2 (rowOf encVar vs).len kA2))
       have O20:Hid (Ov (w.heap.size+1) (w14.setCell ⟨w.heap.size+1,2,none⟩ (.slice A2 (rowOf encVar vs).len kA2)) _ _):=Hd (O17.out.put (i:=2) (v:=.slice A2 (rowOf encVar vs).len kA2) (Nat.le_refl _))
       generalize (w14.setCell ⟨w.heap.size+1,2,none⟩ (.slice A2 (rowOf encVar vs).len kA2))=wz21 at K19 O20 ⊢
       refine (dirs_any true d (tp14) r _ G15.out hd K19.out.rd K19.out.k).mono ?_
       intro e w22 h
       cases hv:dirsR true d (tp14) with
       | error x =>
         rw [hv] at h
         obtain ⟨rfl,m⟩:=of_err h
         exact ⟨rfl,HQ.out _ _ (per (by simp only [opR,opRest,varsR,E4.out,E12.out,E18.out,hv,if_true]) (K19.out.mv.trans m))⟩
       | ok p =>
         obtain ⟨ds,tp22⟩:=p
         rw [hv] at h
         obtain ⟨⟨v,rfl,hl⟩,rr,mm⟩:=of_ok h
         obtain ⟨A3,kA3,rfl,hts⟩:=row_open hl
         have G23:=Hd (G15.out.sub (dirs_sfx hv))
         have K24:=Hd (K19.out.next rr mm)
         have O25:=Hd (O20.out.next mm K19.out.rb)
         have O26:=Hd (Ov.of hts K19.out.blt)
         have E27:=Hd hv
         clear rr mm hv hl hts h
         obtain ⟨y0,y1,y2,y3,y4,yz⟩:=gfv_cells K24.out.loc
         have yf0:=yz 0
         have yf1:=yz 1
         have yf2:=yz 2
         have yf3:=yz 3
         have yf4:=yz 4
         clear yz
         go_wp2_with fail
         clear y0 y1 y2 y3 y4 yf0 yf1 yf2 yf3 yf4
         have K28:Hid (S1 w r (w22.setCell ⟨w.heap.size+1,3,none⟩ (.slice A3 (rowOf encD ds).len kA3)) _ (w.heap.size+1) (.cells #[.int .i64 k,.string nm3,.slice A2 (rowOf encVar vs).len kA2,.slice A3 (rowOf encD ds).len kA3,.slice none 0 0] 68 (0,0)) _ d):=Hd (K24.out.put 3 (.slice A3 (rowOf encD ds).len kA3))
         have O29:Hid (Ov (w.heap.size+1) (w22.setCell ⟨w.heap.size+1,3,none⟩ (.slice A3 (rowOf encD ds).len kA3)) _ _):=Hd (O25.out.put (i:=3) (v:=.slice A3 (rowOf encD ds).len kA3) (Nat.le_refl _))
         have O30:Hid (Ov (w.heap.size+1) (w22.setCell ⟨w.heap.size+1,3,none⟩ (.slice A3 (rowOf encD ds).len kA3)) _ _):=Hd (O26.out.put (i:=3) (v:=.slice A3 (rowOf encD ds).len kA3) (Nat.le_refl _))
         generalize (w22.setCell ⟨w.heap.size+1,3,none⟩ (.slice A3 (rowOf encD ds).len kA3))=wz31 at K28 O29 O30 ⊢
         refine (sels_any d (tp22) r _ G23.out hd K28.out.rd K28.out.k).mono ?_
         intro e w32 h
         cases hv:selsD d (tp22) with
         | error x =>
           rw [hv] at h
           obtain ⟨rfl,m⟩:=of_err h
           exact ⟨rfl,HQ.out _ _ (per (by simp only [opR,opRest,varsR,E4.out,E12.out,E18.out,E27.out,hv,if_true]) (K28.out.mv.trans m))⟩
         | ok p =>
           obtain ⟨sq,tp32⟩:=p
           rw [hv] at h
           obtain ⟨⟨v,rfl,hl⟩,rr,mm⟩:=of_ok h
           obtain ⟨A4,kA4,rfl,hts⟩:=row_open hl
           have G33:=Hd (G23.out.sub (sels_sfx hv).1)
           have K34:=Hd (K28.out.next rr mm)
           have O35:=Hd (O29.out.next mm K28.out.rb)
           have O36:=Hd (O30.out.next mm K28.out.rb)
           have O37:=Hd (Ov.of hts K28.out.blt)
           have E38:=Hd hv
           clear rr mm hv hl hts h
           obtain ⟨y0,y1,y2,y3,y4,yz⟩:=gfv_cells K34.out.loc
           have yf0:=yz 0
           have yf1:=yz 1
           have yf2:=yz 2
           have yf3:=yz 3
           have yf4:=yz 4
           clear yz
           obtain ⟨x0,x1,x2,x3,x4,xz⟩:=gfv_cells K34.out.res
           have xf0:=xz 0
           have xf1:=xz 1
           have xf2:=xz 2
           have xf3:=xz 3
           have xf4:=xz 4
           clear xz
           go_wp2_with fail
           clear y0 y1 y2 y3 y4 yf0 yf1 yf2 yf3 yf4 x0 x1 x2 x3 x4 xf0 xf1 xf2 xf3 xf4
           have K39:Hid (S1 w r (w32.setCell ⟨w.heap.size+1,4,none⟩ (.slice A4 (encSL sq).len kA4)) _ (w.heap.size+1) (.cells #[.int .i64 k,.string nm3,.slice A2 (rowOf encVar vs).len kA2,.slice A3 (rowOf encD ds).len kA3,.slice A4 (encSL sq).len kA4] 68 (0,0)) _ d):=Hd (K34.out.put 4 (.slice A4 (encSL sq).len kA4))
           have O40:Hid (Ov (w.heap.size+1) (w32.setCell ⟨w.heap.size+1,4,none⟩ (.slice A4 (encSL sq).len kA4)) _ _):=Hd (O35.out.put (i:=4) (v:=.slice A4 (encSL sq).len kA4) (Nat.le_refl _))
           have O41:Hid (Ov (w.heap.size+1) (w32.setCell ⟨w.heap.size+1,4,none⟩ (.slice A4 (encSL sq).len kA4)) _ _):=Hd (O36.out.put (i:=4) (v:=.slice A4 (encSL sq).len kA4) (Nat.le_refl _))
           have O42:Hid (Ov (w.heap.size+1) (w32.setCell ⟨w.heap.size+1,4,none⟩ (.slice A4 (encSL sq).len kA4)) _ _):=Hd (O37.out.put (i:=4) (v:=.slice A4 (encSL sq).len kA4) (Nat.le_refl _))
           obtain ⟨f1,f2,f3⟩:=S1.fin (ys:=[.int .i64 0,.string ⟨#[]⟩,.slice none 0 0,.slice none 0 0,.slice none 0 0]) K39.out [.int .i64 k,.string nm3,.slice A2 (rowOf encVar vs).len kA2,.slice A3 (rowOf encD ds).len kA3,.slice A4 (encSL sq).len kA4] rfl
           have Fv:=O40.out.fin (w:=w) (Nat.le_of_lt K39.out.bl) [.int .i64 k,.string nm3,.slice A2 (rowOf encVar vs).len kA2,.slice A3 (rowOf encD ds).len kA3,.slice A4 (encSL sq).len kA4]
           have Fd:=O41.out.fin (w:=w) (Nat.le_of_lt K39.out.bl) [.int .i64 k,.string nm3,.slice A2 (rowOf encVar vs).len kA2,.slice A3 (rowOf encD ds).len kA3,.slice A4 (encSL sq).len kA4]
           have Fs:=O42.out.fin (w:=w) (Nat.le_of_lt K39.out.bl) [.int .i64 k,.string nm3,.slice A2 (rowOf encVar vs).len kA2,.slice A3 (rowOf encD ds).len kA3,.slice A4 (encSL sq).len kA4]
           have FP:=HQ.out _ _ (post_ok (a:=⟨k,nm3,vs,ds,sq⟩) (by simp only [opR,opRest,varsR,E4.out,E12.out,E18.out,E27.out,E38.out,if_true]) ⟨[.int .i64 k,.string nm3,.slice A2 (rowOf encVar vs).len kA2,.slice A3 (rowOf encD ds).len kA3,.slice A4 (encSL sq).len kA4],rfl,TS.int (TS.str Nnm3.out (TS.row Fv (TS.row Fd (TS.row Fs (TS.nil _ _)))))⟩ f2 f3)
           exact ret_st rfl rfl rfl f1 Tryz.underlying68 ⟨_,rfl⟩ (by kernel_rfl) FP
   | false =>
     rw [hb] at h
     obtain ⟨rfl,rr,mm⟩:=h
     rw [skip_no hb] at rr
     have E43:=Hd hb
     have K44:=Hd (K8.out.next rr mm)
     clear rr mm hb
     go_wp2_with fail
     refine (dirs_any true d (nt3) r _ G6.out hd K44.out.rd K44.out.k).mono ?_
     intro e w45 h
     cases hv:dirsR true d (nt3) with
     | error x =>
       rw [hv] at h
       obtain ⟨rfl,m⟩:=of_err h
       exact ⟨rfl,HQ.out _ _ (per (by simp only [opR,opRest,varsR,E4.out,E43.out,hv,if_false,Bool.false_eq_true]) (K44.out.mv.trans m))⟩
     | ok p =>
       obtain ⟨ds,tp45⟩:=p
       rw [hv] at h
       obtain ⟨⟨v,rfl,hl⟩,rr,mm⟩:=of_ok h
       obtain ⟨A3,kA3,rfl,hts⟩:=row_open hl
       have G46:=Hd (G6.out.sub (dirs_sfx hv))
       have K47:=Hd (K44.out.next rr mm)
       have O48:=Hd (Ov.of hts K44.out.blt)
       have E49:=Hd hv
       clear rr mm hv hl hts h
       obtain ⟨y0,y1,y2,y3,y4,yz⟩:=gfv_cells K47.out.loc
       have yf0:=yz 0
       have yf1:=yz 1
       have yf2:=yz 2
       have yf3:=yz 3
       have yf4:=yz 4
       clear yz
       go_wp2_with fail
       clear y0 y1 y2 y3 y4 yf0 yf1 yf2 yf3 yf4
       have K50:Hid (S1 w r (w45.setCell ⟨w.heap.size+1,3,none⟩ (.slice A3 (rowOf encD ds).len kA3)) _ (w.heap.size+1) (.cells #[.int .i64 k,.string nm3,.slice none 0 0,.slice A3 (rowOf encD ds).len kA3,.slice none 0 0] 68 (0,0)) _ d):=Hd (K47.out.put 3 (.slice A3 (rowOf encD ds).len kA3))
       have O51:Hid (Ov (w.heap.size+1) (w45.setCell ⟨w.heap.size+1,3,none⟩ (.slice A3 (rowOf encD ds).len kA3)) _ _):=Hd (O48.out.put (i:=3) (v:=.slice A3 (rowOf encD ds).len kA3) (Nat.le_refl _))
       generalize (w45.setCell ⟨w.heap.size+1,3,none⟩ (.slice A3 (rowOf encD ds).len kA3))=wz52 at K50 O51 ⊢
       refine (sels_any d (tp45) r _ G46.out hd K50.out.rd K50.out.k).mono ?_
       intro e w53 h
       cases hv:selsD d (tp45) with
       | error x =>
         rw [hv] at h
         obtain ⟨rfl,m⟩:=of_err h
         exact ⟨rfl,HQ.out _ _ (per (by simp only [opR,opRest,varsR,E4.out,E43.out,E49.out,hv,if_false,Bool.false_eq_true]) (K50.out.mv.trans m))⟩
       | ok p =>
         obtain ⟨sq,tp53⟩:=p
         rw [hv] at h
         obtain ⟨⟨v,rfl,hl⟩,rr,mm⟩:=of_ok h
         obtain ⟨A4,kA4,rfl,hts⟩:=row_open hl
         have G54:=Hd (G46.out.sub (sels_sfx hv).1)
         have K55:=Hd (K50.out.next rr mm)
         have O56:=Hd (O51.out.next mm K50.out.rb)
         have O57:=Hd (Ov.of hts K50.out.blt)
         have E58:=Hd hv
         clear rr mm hv hl hts h
         obtain ⟨y0,y1,y2,y3,y4,yz⟩:=gfv_cells K55.out.loc
         have yf0:=yz 0
         have yf1:=yz 1
         have yf2:=yz 2
         have yf3:=yz 3
         have yf4:=yz 4
         clear yz
         obtain ⟨x0,x1,x2,x3,x4,xz⟩:=gfv_cells K55.out.res
         have xf0:=xz 0
         have xf1:=xz 1
         have xf2:=xz 2
         have xf3:=xz 3
         have xf4:=xz 4
         clear xz
         go_wp2_with fail
         clear y0 y1 y2 y3 y4 yf0 yf1 yf2 yf3 yf4 x0 x1 x2 x3 x4 xf0 xf1 xf2 xf3 xf4
         have K59:Hid (S1 w r (w53.setCell ⟨w.heap.size+1,4,none⟩ (.slice A4 (encSL sq).len kA4)) _ (w.heap.size+1) (.cells #[.int .i64 k,.string nm3,.slice none 0 0,.slice A3 (rowOf encD ds).len kA3,.slice A4 (encSL sq).len kA4] 68 (0,0)) _ d):=Hd (K55.out.put 4 (.slice A4 (encSL sq).len kA4))
         have O60:Hid (Ov (w.heap.size+1) (w53.setCell ⟨w.heap.size+1,4,none⟩ (.slice A4 (encSL sq).len kA4)) _ _):=Hd (O56.out.put (i:=4) (v:=.slice A4 (encSL sq).len kA4) (Nat.le_refl _))
         have O61:Hid (Ov (w.heap.size+1) (w53.setCell ⟨w.heap.size+1,4,none⟩ (.slice A4 (encSL sq).len kA4)) _ _):=Hd (O57.out.put (i:=4) (v:=.slice A4 (encSL sq).len kA4) (Nat.le_refl _))
         obtain ⟨f1,f2,f3⟩:=S1.fin (ys:=[.int .i64 0,.string ⟨#[]⟩,.slice none 0 0,.slice none 0 0,.slice none 0 0]) K59.out [.int .i64 k,.string nm3,.slice none 0 0,.slice A3 (rowOf encD ds).len kA3,.slice A4 (encSL sq).len kA4] rfl
         have Fd:=O60.out.fin (w:=w) (Nat.le_of_lt K59.out.bl) [.int .i64 k,.string nm3,.slice none 0 0,.slice A3 (rowOf encD ds).len kA3,.slice A4 (encSL sq).len kA4]
         have Fs:=O61.out.fin (w:=w) (Nat.le_of_lt K59.out.bl) [.int .i64 k,.string nm3,.slice none 0 0,.slice A3 (rowOf encD ds).len kA3,.slice A4 (encSL sq).len kA4]
         have FP:=HQ.out _ _ (post_ok (a:=⟨k,nm3,[],ds,sq⟩) (by simp only [opR,opRest,varsR,E4.out,E43.out,E49.out,E58.out,if_false,Bool.false_eq_true]) ⟨[.int .i64 k,.string nm3,.slice none 0 0,.slice A3 (rowOf encD ds).len kA3,.slice A4 (encSL sq).len kA4],rfl,TS.int (TS.str Nnm3.out (TS.row (show TP _ _ (.row (rowOf encVar [])) _ from TP.none _ _) (TS.row Fd (TS.row Fs (TS.nil _ _)))))⟩ f2 f3)
         exact ret_st rfl rfl rfl f1 Tryz.underlying68 ⟨_,rfl⟩ (by kernel_rfl) FP
 | false =>
   rw [hb] at h
   obtain ⟨rfl,rfl⟩:=h
   have hn62:=word_none hb
   have E63:=Hd hn62
   clear hb hn62
   go_wp2_with fail
   refine (skip_any r ts d 1 opB _ K1.out.rd).mono ?_
   intro e w64 h
   cases hb:atB 1 opB ts with
   | true =>
     rw [hb] at h
     obtain ⟨rfl,rr,mm⟩:=h
     rw [skip_yes hb] at rr
     have G65:=Hd (G0.out.sub (at_sfx hb).1)
     have E66:=Hd hb
     have K67:=Hd (K1.out.next rr mm)
     clear rr mm hb
     go_wp2_with fail
     refine (serV_any (varR d) (fun _ _ _ h=>var_sfx h) r d (ts.tail) _ (fun tq wx g _ hx hk _=>variable_any d tq r wx g hd hx hk) G65.out K67.out.rd K67.out.k trivial).mono ?_
     intro e w68 h
     cases hv:serR (varR d) addL cpB (((ts.tail)).length+1) [] (ts.tail) with
     | error x =>
       rw [hv] at h
       obtain ⟨rfl,m⟩:=of_err h
       exact ⟨rfl,HQ.out _ _ (per (by simp only [opR,opRest,varsR,E63.out,E66.out,hv,if_true]) (K67.out.mv.trans m))⟩
     | ok p =>
       obtain ⟨vs,tp68⟩:=p
       rw [hv] at h
       obtain ⟨⟨v,rfl,hl⟩,rr,mm⟩:=of_ok h
       obtain ⟨A2,kA2,rfl,hts⟩:=row_open hl
       have G69:=Hd (G65.out.sub (ser_sfx (fun _ _ _ h=>var_sfx h) _ _ _ _ _ hv).1)
       have K70:=Hd (K67.out.next rr mm)
       have O71:=Hd (Ov.of hts K67.out.blt)
       have E72:=Hd hv
       clear rr mm hv hl hts h
       obtain ⟨y0,y1,y2,y3,y4,yz⟩:=gfv_cells K70.out.loc
       have yf0:=yz 0
       have yf1:=yz 1
       have yf2:=yz 2
       have yf3:=yz 3
       have yf4:=yz 4
       clear yz
       go_wp2_with fail
       clear y0 y1 y2 y3 y4 yf0 yf1 yf2 yf3 yf4
       have K73:Hid (S1 w r (w68.setCell ⟨w.heap.size+1,2,none⟩ (.slice A2 (rowOf encVar vs).len kA2)) _ (w.heap.size+1) (.cells #[.int .i64 k,.string ⟨#[]⟩,.slice A2 (rowOf encVar vs).len kA2,.slice none 0 0,.slice none 0 0] 68 (0,0)) _ d):=Hd (K70.out.put 2 (.slice A2 (rowOf encVar vs).len kA2))
       have O74:Hid (Ov (w.heap.size+1) (w68.setCell ⟨w.heap.size+1,2,none⟩ (.slice A2 (rowOf encVar vs).len kA2)) _ _):=Hd (O71.out.put (i:=2) (v:=.slice A2 (rowOf encVar vs).len kA2) (Nat.le_refl _))
       generalize (w68.setCell ⟨w.heap.size+1,2,none⟩ (.slice A2 (rowOf encVar vs).len kA2))=wz75 at K73 O74 ⊢
       refine (dirs_any true d (tp68) r _ G69.out hd K73.out.rd K73.out.k).mono ?_
       intro e w76 h
       cases hv:dirsR true d (tp68) with
       | error x =>
         rw [hv] at h
         obtain ⟨rfl,m⟩:=of_err h
         exact ⟨rfl,HQ.out _ _ (per (by simp only [opR,opRest,varsR,E63.out,E66.out,E72.out,hv,if_true]) (K73.out.mv.trans m))⟩
       | ok p =>
         obtain ⟨ds,tp76⟩:=p
         rw [hv] at h
         obtain ⟨⟨v,rfl,hl⟩,rr,mm⟩:=of_ok h
         obtain ⟨A3,kA3,rfl,hts⟩:=row_open hl
         have G77:=Hd (G69.out.sub (dirs_sfx hv))
         have K78:=Hd (K73.out.next rr mm)
         have O79:=Hd (O74.out.next mm K73.out.rb)
         have O80:=Hd (Ov.of hts K73.out.blt)
         have E81:=Hd hv
         clear rr mm hv hl hts h
         obtain ⟨y0,y1,y2,y3,y4,yz⟩:=gfv_cells K78.out.loc
         have yf0:=yz 0
         have yf1:=yz 1
         have yf2:=yz 2
         have yf3:=yz 3
         have yf4:=yz 4
         clear yz
         go_wp2_with fail
         clear y0 y1 y2 y3 y4 yf0 yf1 yf2 yf3 yf4
         have K82:Hid (S1 w r (w76.setCell ⟨w.heap.size+1,3,none⟩ (.slice A3 (rowOf encD ds).len kA3)) _ (w.heap.size+1) (.cells #[.int .i64 k,.string ⟨#[]⟩,.slice A2 (rowOf encVar vs).len kA2,.slice A3 (rowOf encD ds).len kA3,.slice none 0 0] 68 (0,0)) _ d):=Hd (K78.out.put 3 (.slice A3 (rowOf encD ds).len kA3))
         have O83:Hid (Ov (w.heap.size+1) (w76.setCell ⟨w.heap.size+1,3,none⟩ (.slice A3 (rowOf encD ds).len kA3)) _ _):=Hd (O79.out.put (i:=3) (v:=.slice A3 (rowOf encD ds).len kA3) (Nat.le_refl _))
         have O84:Hid (Ov (w.heap.size+1) (w76.setCell ⟨w.heap.size+1,3,none⟩ (.slice A3 (rowOf encD ds).len kA3)) _ _):=Hd (O80.out.put (i:=3) (v:=.slice A3 (rowOf encD ds).len kA3) (Nat.le_refl _))
         generalize (w76.setCell ⟨w.heap.size+1,3,none⟩ (.slice A3 (rowOf encD ds).len kA3))=wz85 at K82 O83 O84 ⊢
         refine (sels_any d (tp76) r _ G77.out hd K82.out.rd K82.out.k).mono ?_
         intro e w86 h
         cases hv:selsD d (tp76) with
         | error x =>
           rw [hv] at h
           obtain ⟨rfl,m⟩:=of_err h
           exact ⟨rfl,HQ.out _ _ (per (by simp only [opR,opRest,varsR,E63.out,E66.out,E72.out,E81.out,hv,if_true]) (K82.out.mv.trans m))⟩
         | ok p =>
           obtain ⟨sq,tp86⟩:=p
           rw [hv] at h
           obtain ⟨⟨v,rfl,hl⟩,rr,mm⟩:=of_ok h
           obtain ⟨A4,kA4,rfl,hts⟩:=row_open hl
           have G87:=Hd (G77.out.sub (sels_sfx hv).1)
           have K88:=Hd (K82.out.next rr mm)
           have O89:=Hd (O83.out.next mm K82.out.rb)
           have O90:=Hd (O84.out.next mm K82.out.rb)
           have O91:=Hd (Ov.of hts K82.out.blt)
           have E92:=Hd hv
           clear rr mm hv hl hts h
           obtain ⟨y0,y1,y2,y3,y4,yz⟩:=gfv_cells K88.out.loc
           have yf0:=yz 0
           have yf1:=yz 1
           have yf2:=yz 2
           have yf3:=yz 3
           have yf4:=yz 4
           clear yz
           obtain ⟨x0,x1,x2,x3,x4,xz⟩:=gfv_cells K88.out.res
           have xf0:=xz 0
           have xf1:=xz 1
           have xf2:=xz 2
           have xf3:=xz 3
           have xf4:=xz 4
           clear xz
           go_wp2_with fail
           clear y0 y1 y2 y3 y4 yf0 yf1 yf2 yf3 yf4 x0 x1 x2 x3 x4 xf0 xf1 xf2 xf3 xf4
           have K93:Hid (S1 w r (w86.setCell ⟨w.heap.size+1,4,none⟩ (.slice A4 (encSL sq).len kA4)) _ (w.heap.size+1) (.cells #[.int .i64 k,.string ⟨#[]⟩,.slice A2 (rowOf encVar vs).len kA2,.slice A3 (rowOf encD ds).len kA3,.slice A4 (encSL sq).len kA4] 68 (0,0)) _ d):=Hd (K88.out.put 4 (.slice A4 (encSL sq).len kA4))
           have O94:Hid (Ov (w.heap.size+1) (w86.setCell ⟨w.heap.size+1,4,none⟩ (.slice A4 (encSL sq).len kA4)) _ _):=Hd (O89.out.put (i:=4) (v:=.slice A4 (encSL sq).len kA4) (Nat.le_refl _))
           have O95:Hid (Ov (w.heap.size+1) (w86.setCell ⟨w.heap.size+1,4,none⟩ (.slice A4 (encSL sq).len kA4)) _ _):=Hd (O90.out.put (i:=4) (v:=.slice A4 (encSL sq).len kA4) (Nat.le_refl _))
           have O96:Hid (Ov (w.heap.size+1) (w86.setCell ⟨w.heap.size+1,4,none⟩ (.slice A4 (encSL sq).len kA4)) _ _):=Hd (O91.out.put (i:=4) (v:=.slice A4 (encSL sq).len kA4) (Nat.le_refl _))
           obtain ⟨f1,f2,f3⟩:=S1.fin (ys:=[.int .i64 0,.string ⟨#[]⟩,.slice none 0 0,.slice none 0 0,.slice none 0 0]) K93.out [.int .i64 k,.string ⟨#[]⟩,.slice A2 (rowOf encVar vs).len kA2,.slice A3 (rowOf encD ds).len kA3,.slice A4 (encSL sq).len kA4] rfl
           have Fv:=O94.out.fin (w:=w) (Nat.le_of_lt K93.out.bl) [.int .i64 k,.string ⟨#[]⟩,.slice A2 (rowOf encVar vs).len kA2,.slice A3 (rowOf encD ds).len kA3,.slice A4 (encSL sq).len kA4]
           have Fd:=O95.out.fin (w:=w) (Nat.le_of_lt K93.out.bl) [.int .i64 k,.string ⟨#[]⟩,.slice A2 (rowOf encVar vs).len kA2,.slice A3 (rowOf encD ds).len kA3,.slice A4 (encSL sq).len kA4]
           have Fs:=O96.out.fin (w:=w) (Nat.le_of_lt K93.out.bl) [.int .i64 k,.string ⟨#[]⟩,.slice A2 (rowOf encVar vs).len kA2,.slice A3 (rowOf encD ds).len kA3,.slice A4 (encSL sq).len kA4]
           have FP:=HQ.out _ _ (post_ok (a:=⟨k,eB,vs,ds,sq⟩) (by simp only [opR,opRest,varsR,E63.out,E66.out,E72.out,E81.out,E92.out,if_true]) ⟨[.int .i64 k,.string ⟨#[]⟩,.slice A2 (rowOf encVar vs).len kA2,.slice A3 (rowOf encD ds).len kA3,.slice A4 (encSL sq).len kA4],rfl,TS.int (TS.str (Nat.zero_le _) (TS.row Fv (TS.row Fd (TS.row Fs (TS.nil _ _)))))⟩ f2 f3)
           exact ret_st rfl rfl rfl f1 Tryz.underlying68 ⟨_,rfl⟩ (by kernel_rfl) FP
   | false =>
     rw [hb] at h
     obtain ⟨rfl,rr,mm⟩:=h
     rw [skip_no hb] at rr
     have E97:=Hd hb
     have K98:=Hd (K1.out.next rr mm)
     clear rr mm hb
     go_wp2_with fail
     refine (dirs_any true d (ts) r _ G0.out hd K98.out.rd K98.out.k).mono ?_
     intro e w99 h
     cases hv:dirsR true d (ts) with
     | error x =>
       rw [hv] at h
       obtain ⟨rfl,m⟩:=of_err h
       exact ⟨rfl,HQ.out _ _ (per (by simp only [opR,opRest,varsR,E63.out,E97.out,hv,if_false,Bool.false_eq_true]) (K98.out.mv.trans m))⟩
     | ok p =>
       obtain ⟨ds,tp99⟩:=p
       rw [hv] at h
       obtain ⟨⟨v,rfl,hl⟩,rr,mm⟩:=of_ok h
       obtain ⟨A3,kA3,rfl,hts⟩:=row_open hl
       have G100:=Hd (G0.out.sub (dirs_sfx hv))
       have K101:=Hd (K98.out.next rr mm)
       have O102:=Hd (Ov.of hts K98.out.blt)
       have E103:=Hd hv
       clear rr mm hv hl hts h
       obtain ⟨y0,y1,y2,y3,y4,yz⟩:=gfv_cells K101.out.loc
       have yf0:=yz 0
       have yf1:=yz 1
       have yf2:=yz 2
       have yf3:=yz 3
       have yf4:=yz 4
       clear yz
       go_wp2_with fail
       clear y0 y1 y2 y3 y4 yf0 yf1 yf2 yf3 yf4
       have K104:Hid (S1 w r (w99.setCell ⟨w.heap.size+1,3,none⟩ (.slice A3 (rowOf encD ds).len kA3)) _ (w.heap.size+1) (.cells #[.int .i64 k,.string ⟨#[]⟩,.slice none 0 0,.slice A3 (rowOf encD ds).len kA3,.slice none 0 0] 68 (0,0)) _ d):=Hd (K101.out.put 3 (.slice A3 (rowOf encD ds).len kA3))
       have O105:Hid (Ov (w.heap.size+1) (w99.setCell ⟨w.heap.size+1,3,none⟩ (.slice A3 (rowOf encD ds).len kA3)) _ _):=Hd (O102.out.put (i:=3) (v:=.slice A3 (rowOf encD ds).len kA3) (Nat.le_refl _))
       generalize (w99.setCell ⟨w.heap.size+1,3,none⟩ (.slice A3 (rowOf encD ds).len kA3))=wz106 at K104 O105 ⊢
       refine (sels_any d (tp99) r _ G100.out hd K104.out.rd K104.out.k).mono ?_
       intro e w107 h
       cases hv:selsD d (tp99) with
       | error x =>
         rw [hv] at h
         obtain ⟨rfl,m⟩:=of_err h
         exact ⟨rfl,HQ.out _ _ (per (by simp only [opR,opRest,varsR,E63.out,E97.out,E103.out,hv,if_false,Bool.false_eq_true]) (K104.out.mv.trans m))⟩
       | ok p =>
         obtain ⟨sq,tp107⟩:=p
         rw [hv] at h
         obtain ⟨⟨v,rfl,hl⟩,rr,mm⟩:=of_ok h
         obtain ⟨A4,kA4,rfl,hts⟩:=row_open hl
         have G108:=Hd (G100.out.sub (sels_sfx hv).1)
         have K109:=Hd (K104.out.next rr mm)
         have O110:=Hd (O105.out.next mm K104.out.rb)
         have O111:=Hd (Ov.of hts K104.out.blt)
         have E112:=Hd hv
         clear rr mm hv hl hts h
         obtain ⟨y0,y1,y2,y3,y4,yz⟩:=gfv_cells K109.out.loc
         have yf0:=yz 0
         have yf1:=yz 1
         have yf2:=yz 2
         have yf3:=yz 3
         have yf4:=yz 4
         clear yz
         obtain ⟨x0,x1,x2,x3,x4,xz⟩:=gfv_cells K109.out.res
         have xf0:=xz 0
         have xf1:=xz 1
         have xf2:=xz 2
         have xf3:=xz 3
         have xf4:=xz 4
         clear xz
         go_wp2_with fail
         clear y0 y1 y2 y3 y4 yf0 yf1 yf2 yf3 yf4 x0 x1 x2 x3 x4 xf0 xf1 xf2 xf3 xf4
         have K113:Hid (S1 w r (w107.setCell ⟨w.heap.size+1,4,none⟩ (.slice A4 (encSL sq).len kA4)) _ (w.heap.size+1) (.cells #[.int .i64 k,.string ⟨#[]⟩,.slice none 0 0,.slice A3 (rowOf encD ds).len kA3,.slice A4 (encSL sq).len kA4] 68 (0,0)) _ d):=Hd (K109.out.put 4 (.slice A4 (encSL sq).len kA4))
         have O114:Hid (Ov (w.heap.size+1) (w107.setCell ⟨w.heap.size+1,4,none⟩ (.slice A4 (encSL sq).len kA4)) _ _):=Hd (O110.out.put (i:=4) (v:=.slice A4 (encSL sq).len kA4) (Nat.le_refl _))
         have O115:Hid (Ov (w.heap.size+1) (w107.setCell ⟨w.heap.size+1,4,none⟩ (.slice A4 (encSL sq).len kA4)) _ _):=Hd (O111.out.put (i:=4) (v:=.slice A4 (encSL sq).len kA4) (Nat.le_refl _))
         obtain ⟨f1,f2,f3⟩:=S1.fin (ys:=[.int .i64 0,.string ⟨#[]⟩,.slice none 0 0,.slice none 0 0,.slice none 0 0]) K113.out [.int .i64 k,.string ⟨#[]⟩,.slice none 0 0,.slice A3 (rowOf encD ds).len kA3,.slice A4 (encSL sq).len kA4] rfl
         have Fd:=O114.out.fin (w:=w) (Nat.le_of_lt K113.out.bl) [.int .i64 k,.string ⟨#[]⟩,.slice none 0 0,.slice A3 (rowOf encD ds).len kA3,.slice A4 (encSL sq).len kA4]
         have Fs:=O115.out.fin (w:=w) (Nat.le_of_lt K113.out.bl) [.int .i64 k,.string ⟨#[]⟩,.slice none 0 0,.slice A3 (rowOf encD ds).len kA3,.slice A4 (encSL sq).len kA4]
         have FP:=HQ.out _ _ (post_ok (a:=⟨k,eB,[],ds,sq⟩) (by simp only [opR,opRest,varsR,E63.out,E97.out,E103.out,E112.out,if_false,Bool.false_eq_true]) ⟨[.int .i64 k,.string ⟨#[]⟩,.slice none 0 0,.slice A3 (rowOf encD ds).len kA3,.slice A4 (encSL sq).len kA4],rfl,TS.int (TS.str (Nat.zero_le _) (TS.row (show TP _ _ (.row (rowOf encVar [])) _ from TP.none _ _) (TS.row Fd (TS.row Fs (TS.nil _ _)))))⟩ f2 f3)
         exact ret_st rfl rfl rfl f1 Tryz.underlying68 ⟨_,rfl⟩ (by kernel_rfl) FP
theorem frag_any (d:Nat) (ts:List Tok) (r:Nat) (w:World) (hG:GoodD ts) (hd:d≤16) (hR:Rd w r ts d) (hK:KRd r w):Calls Tryz.prog 99 #[.pointer (some ⟨r,0,none⟩)] w (Post r d w (layS encF) (fragR d ts)):=by
 suffices H:∀ Q:Ending→World→Prop,(∀ e w',Post r d w (layS encF) (fragR d ts) e w'→Q e w')→Calls Tryz.prog 99 #[.pointer (some ⟨r,0,none⟩)] w Q from H _ (fun _ _ h=>h)
 intro Q hQ
 have HQ:=Hd hQ
 have K0:=Hd (S0.start hR hK #[.string ⟨#[]⟩,.string ⟨#[]⟩,.slice none 0 0,.slice none 0 0] 87)
 have G0:=Hd hG
 clear hQ hR hK hG
 go_enter Tryz.func99,Tryz.ntmps99
 go_wp2_with fail
 refine (at_any r ts d 2 onB _ K0.out.rd).mono ?_
 intro e w1 h
 cases hb:atB 2 onB ts with
 | true =>
   rw [hb] at h
   obtain ⟨rfl,rfl⟩:=h
   have E2:=Hd hb
   clear hb
   go_wp2_with fail
   exact ⟨rfl,HQ.out _ _ (per (by simp only [fragR,E2.out,if_true]) K0.out.mv)⟩
 | false =>
   rw [hb] at h
   obtain ⟨rfl,rfl⟩:=h
   have E3:=Hd hb
   clear hb
   go_wp2_with fail
   refine (pname_any r (ts) d _ K0.out.rd).mono ?_
   intro e w4 h
   cases hn:nameR (ts) with
   | none =>
     rw [hn] at h
     obtain ⟨rfl,m⟩:=h
     exact ⟨rfl,HQ.out _ _ (per (by simp only [fragR,E3.out,hn,if_false,Bool.false_eq_true]) (K0.out.mv.trans m))⟩
   | some p =>
     obtain ⟨n,tn4⟩:=p
     rw [hn] at h
     obtain ⟨rfl,rr,mm⟩:=h
     have Nn:=Hd (G0.out.name hn)
     have G5:=Hd (G0.out.sub (name_sfx hn).1)
     have E6:=Hd hn
     have K7:=Hd (K0.out.next rr mm)
     clear rr mm hn
     go_wp2_with fail
     have K8:=Hd (S1.make K7.out #[.string n,.string ⟨#[]⟩,.slice none 0 0,.slice none 0 0] 87)
     refine (need_any r tn4 d 2 onB _ K8.out.rd).mono ?_
     intro e w9 h
     cases hb:atB 2 onB tn4 with
     | false =>
       rw [hb] at h
       simp only [Bool.false_eq_true,if_false] at h
       obtain ⟨rfl,m⟩:=h
       exact ⟨rfl,HQ.out _ _ (per (by simp only [fragR,E3.out,E6.out,hb,if_false,Bool.false_eq_true]) (K8.out.mv.trans m))⟩
     | true =>
       rw [hb] at h
       simp only [if_true] at h
       obtain ⟨rfl,rr,mm⟩:=h
       have G10:=Hd (G5.out.sub (at_sfx hb).1)
       have E11:=Hd hb
       have K12:=Hd (K8.out.next rr mm)
       clear rr mm hb
       go_wp2_with fail
       refine (pname_any r (tn4.tail) d _ K12.out.rd).mono ?_
       intro e w13 h
       cases hn:nameR (tn4.tail) with
       | none =>
         rw [hn] at h
         obtain ⟨rfl,m⟩:=h
         exact ⟨rfl,HQ.out _ _ (per (by simp only [fragR,E3.out,E6.out,E11.out,hn,if_true,if_false,Bool.false_eq_true]) (K12.out.mv.trans m))⟩
       | some p =>
         obtain ⟨o,tn13⟩:=p
         rw [hn] at h
         obtain ⟨rfl,rr,mm⟩:=h
         have No:=Hd (G10.out.name hn)
         have G14:=Hd (G10.out.sub (name_sfx hn).1)
         have E15:=Hd hn
         have K16:=Hd (K12.out.next rr mm)
         clear rr mm hn
         obtain ⟨y0,y1,y2,y3,yz⟩:=four_cells K16.out.loc
         have yf0:=yz 0
         have yf1:=yz 1
         have yf2:=yz 2
         have yf3:=yz 3
         clear yz
         go_wp2_with fail
         clear y0 y1 y2 y3 yf0 yf1 yf2 yf3
         have K17:Hid (S1 w r (w13.setCell ⟨w4.heap.size,1,none⟩ (.string o)) _ (w4.heap.size) (.cells #[.string n,.string o,.slice none 0 0,.slice none 0 0] 87 (0,0)) _ d):=Hd (K16.out.put 1 (.string o))
         generalize (w13.setCell ⟨w4.heap.size,1,none⟩ (.string o))=wz18 at K17 ⊢
         refine (dirs_any true d (tn13) r _ G14.out hd K17.out.rd K17.out.k).mono ?_
         intro e w19 h
         cases hv:dirsR true d (tn13) with
         | error x =>
           rw [hv] at h
           obtain ⟨rfl,m⟩:=of_err h
           exact ⟨rfl,HQ.out _ _ (per (by simp only [fragR,E3.out,E6.out,E11.out,E15.out,hv,if_true,if_false,Bool.false_eq_true]) (K17.out.mv.trans m))⟩
         | ok p =>
           obtain ⟨ds,tp19⟩:=p
           rw [hv] at h
           obtain ⟨⟨v,rfl,hl⟩,rr,mm⟩:=of_ok h
           obtain ⟨A2,kA2,rfl,hts⟩:=row_open hl
           have G20:=Hd (G14.out.sub (dirs_sfx hv))
           have K21:=Hd (K17.out.next rr mm)
           have O22:=Hd (Ov.of hts K17.out.blt)
           have E23:=Hd hv
           clear rr mm hv hl hts h
           obtain ⟨y0,y1,y2,y3,yz⟩:=four_cells K21.out.loc
           have yf0:=yz 0
           have yf1:=yz 1
           have yf2:=yz 2
           have yf3:=yz 3
           clear yz
           go_wp2_with fail
           clear y0 y1 y2 y3 yf0 yf1 yf2 yf3
           have K24:Hid (S1 w r (w19.setCell ⟨w4.heap.size,2,none⟩ (.slice A2 (rowOf encD ds).len kA2)) _ (w4.heap.size) (.cells #[.string n,.string o,.slice A2 (rowOf encD ds).len kA2,.slice none 0 0] 87 (0,0)) _ d):=Hd (K21.out.put 2 (.slice A2 (rowOf encD ds).len kA2))
           have O25:Hid (Ov (w4.heap.size) (w19.setCell ⟨w4.heap.size,2,none⟩ (.slice A2 (rowOf encD ds).len kA2)) _ _):=Hd (O22.out.put (i:=2) (v:=.slice A2 (rowOf encD ds).len kA2) (Nat.le_refl _))
           generalize (w19.setCell ⟨w4.heap.size,2,none⟩ (.slice A2 (rowOf encD ds).len kA2))=wz26 at K24 O25 ⊢
           refine (sels_any d (tp19) r _ G20.out hd K24.out.rd K24.out.k).mono ?_
           intro e w27 h
           cases hv:selsD d (tp19) with
           | error x =>
             rw [hv] at h
             obtain ⟨rfl,m⟩:=of_err h
             exact ⟨rfl,HQ.out _ _ (per (by simp only [fragR,E3.out,E6.out,E11.out,E15.out,E23.out,hv,if_true,if_false,Bool.false_eq_true]) (K24.out.mv.trans m))⟩
           | ok p =>
             obtain ⟨sq,tp27⟩:=p
             rw [hv] at h
             obtain ⟨⟨v,rfl,hl⟩,rr,mm⟩:=of_ok h
             obtain ⟨A3,kA3,rfl,hts⟩:=row_open hl
             have G28:=Hd (G20.out.sub (sels_sfx hv).1)
             have K29:=Hd (K24.out.next rr mm)
             have O30:=Hd (O25.out.next mm K24.out.rb)
             have O31:=Hd (Ov.of hts K24.out.blt)
             have E32:=Hd hv
             clear rr mm hv hl hts h
             obtain ⟨y0,y1,y2,y3,yz⟩:=four_cells K29.out.loc
             have yf0:=yz 0
             have yf1:=yz 1
             have yf2:=yz 2
             have yf3:=yz 3
             clear yz
             go_upto_region 8 with fail
             clear y0 y1 y2 y3 yf0 yf1 yf2 yf3
             have K33:Hid (S1 w r (w27.setCell ⟨w4.heap.size,3,none⟩ (.slice A3 (encSL sq).len kA3)) _ (w4.heap.size) (.cells #[.string n,.string o,.slice A2 (rowOf encD ds).len kA2,.slice A3 (encSL sq).len kA3] 87 (0,0)) _ d):=Hd (K29.out.put 3 (.slice A3 (encSL sq).len kA3))
             have O34:Hid (Ov (w4.heap.size) (w27.setCell ⟨w4.heap.size,3,none⟩ (.slice A3 (encSL sq).len kA3)) _ _):=Hd (O30.out.put (i:=3) (v:=.slice A3 (encSL sq).len kA3) (Nat.le_refl _))
             have O35:Hid (Ov (w4.heap.size) (w27.setCell ⟨w4.heap.size,3,none⟩ (.slice A3 (encSL sq).len kA3)) _ _):=Hd (O31.out.put (i:=3) (v:=.slice A3 (encSL sq).len kA3) (Nat.le_refl _))
             generalize (w27.setCell ⟨w4.heap.size,3,none⟩ (.slice A3 (encSL sq).len kA3))=wz36 at K33 O34 O35 ⊢
             obtain ⟨y0,y1,y2,y3,yz⟩:=four_cells K33.out.loc
             have yf0:=yz 0
             have yf1:=yz 1
             have yf2:=yz 2
             have yf3:=yz 3
             clear yz
             obtain ⟨x0,x1,x2,x3,xz⟩:=four_cells K33.out.res
             have xf0:=xz 0
             have xf1:=xz 1
             have xf2:=xz 2
             have xf3:=xz 3
             clear xz
             go_wp2_with fail
             clear y0 y1 y2 y3 yf0 yf1 yf2 yf3 x0 x1 x2 x3 xf0 xf1 xf2 xf3
             obtain ⟨f1,f2,f3⟩:=S1.fin (ys:=[.string ⟨#[]⟩,.string ⟨#[]⟩,.slice none 0 0,.slice none 0 0]) K33.out [.string n,.string o,.slice A2 (rowOf encD ds).len kA2,.slice A3 (encSL sq).len kA3] rfl
             have Fd:=O34.out.fin (w:=w) (Nat.le_of_lt K33.out.bl) [.string n,.string o,.slice A2 (rowOf encD ds).len kA2,.slice A3 (encSL sq).len kA3]
             have Fs:=O35.out.fin (w:=w) (Nat.le_of_lt K33.out.bl) [.string n,.string o,.slice A2 (rowOf encD ds).len kA2,.slice A3 (encSL sq).len kA3]
             have FP:=HQ.out _ _ (post_ok (a:=⟨n,o,ds,sq⟩) (by simp only [fragR,E3.out,E6.out,E11.out,E15.out,E23.out,E32.out,if_true,if_false,Bool.false_eq_true]) ⟨[.string n,.string o,.slice A2 (rowOf encD ds).len kA2,.slice A3 (encSL sq).len kA3],rfl,TS.str Nn.out (TS.str No.out (TS.row Fd (TS.row Fs (TS.nil _ _))))⟩ f2 f3)
             exact ret_st rfl rfl rfl f1 Tryz.underlying87 ⟨_,rfl⟩ (by kernel_rfl) FP
end Go.Proofs.YtpkmbhnikilihaaGreatDoor
