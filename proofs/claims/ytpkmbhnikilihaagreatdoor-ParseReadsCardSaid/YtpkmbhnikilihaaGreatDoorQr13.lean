/- The landed spread, selection, selections. -/
import Derived.Test.YtpkmbhnikilihaaGreatDoorQr12
set_option maxRecDepth 100000
set_option maxHeartbeats 8000000
namespace Go.Proofs.YtpkmbhnikilihaaGreatDoor
open Go.RowKit
theorem S1.make1 {w:World} {r:Nat} {cs0:Array Value} {t0:TypeId} {o:Obj} {ts:List Tok} {d:Nat} (h:S0 w r (w.alloc (.cells cs0 t0)) o ts d) (cs:Array Value) (t:TypeId):S1 w r ((w.alloc (.cells cs0 t0)).alloc (.cells cs t)) o (w.heap.size+1) (.cells cs t (0,0)) ts d:=by
 have:=S1.make h cs t
 rwa [show (w.alloc (.cells cs0 t0)).heap.size=w.heap.size+1 by simp] at this
theorem S7 {ts:List Tok} (h:Cn ts=true):∃ n r,Zb ts=some (n,r):=by
 cases ts with
 | nil=>cases h
 | cons t ts =>
   have:t.1=2:=by simpa [Cn] using h
   exact ⟨t.2,ts,by rw [J8,if_pos this]⟩
theorem Zq3 {ts:List Tok} (h:Cn ts=false):Zb ts=none:=by
 cases ts with
 | nil=>rfl
 | cons t ts =>
   have:t.1 ≠ 2:=by simpa [Cn] using h
   rw [J8,if_neg this]
theorem Zxa (S:Ul) (HF:∀ ts l r,S ts=.ok (l,r)→Sfx r ts) (d:Nat) (ts:List Tok) (r:Nat) (w:World) (HS:∀ tq wx,Xb tq→tq.length≤ts.length→Rd wx r tq d→KRd r wx→Calls Tryz.prog 96 #[.pointer (some ⟨r,0,none⟩)] wx (L8 r d wx (Zxh Z7) (S tq))) (hG:Xb ts) (hd:d≤16) (hR:Rd w r ts d) (hK:KRd r w):Calls Tryz.prog 232 #[.pointer (some ⟨r,0,none⟩)] w (L8 r d w (Gt Gk) (Xx S d ts)):=by
 refine cQE (fun Q hQ=>?_)
 have HQ:=Hd hQ
 have L0:=Hd (List.suffix_refl ts)
 have HSS:=Hd HS
 have HFF:=Hd HF
 have K0:=Hd (S0.start hR hK #[.int .i64 0,.string ⟨#[]⟩,.string ⟨#[]⟩,.slice none 0 0,.slice none 0 0,.string ⟨#[]⟩,.slice none 0 0] 72)
 have G0:=Hd hG
 clear hQ hR hK hG HS HF
 go_enter Tryz.func232,Tryz.ntmps232
 go_wp2_with fail
 have K1:=Hd (S1.make1 K0.out #[.int .i64 2,.string ⟨#[]⟩,.string ⟨#[]⟩,.slice none 0 0,.slice none 0 0,.string ⟨#[]⟩,.slice none 0 0] 72)
 refine (Zv r ts d 2 onB _ K1.out.rd).mono ?_
 intro e w2 h
 cases hb:atB 2 onB ts with
 | true =>
   rw [hb] at h
   obtain ⟨rfl,rr,mm⟩:=h
   rw [Jl hb] at rr
   have G3:=Hd (G0.out.sub (Zf hb).1)
   have L4:=Hd (((Zf hb).1).trans L0.out)
   have E5:=Hd hb
   have K6:=Hd (K1.out.next rr mm)
   clear rr mm hb
   go_wp2_with fail
   refine (Yd r (ts.tail) d _ K6.out.rd).mono ?_
   intro e w7 h
   cases hn:Zb (ts.tail) with
   | none =>
     rw [hn] at h
     obtain ⟨rfl,m⟩:=h
     exact ⟨rfl,HQ.out _ _ (per (by simp only [Xx,Yl,E5.out,hn,if_true]) (K6.out.mv.trans m))⟩
   | some p =>
     obtain ⟨o,tn7⟩:=p
     rw [hn] at h
     obtain ⟨rfl,rr,mm⟩:=h
     have No:=Hd (G3.out.name hn)
     have G8:=Hd (G3.out.sub (Zc hn).1)
     have L9:=Hd (((Zc hn).1).trans L4.out)
     have E10:=Hd hn
     have K11:=Hd (K6.out.next rr mm)
     clear rr mm hn
     obtain ⟨y0,y1,y2,y3,y4,y5,y6,yz⟩:=svc K11.out.loc
     have yf0:=yz 0
     have yf1:=yz 1
     have yf2:=yz 2
     have yf3:=yz 3
     have yf4:=yz 4
     have yf5:=yz 5
     have yf6:=yz 6
     clear yz
     go_wp2_with fail
     clear y0 y1 y2 y3 y4 y5 y6 yf0 yf1 yf2 yf3 yf4 yf5 yf6
     have K12:Hid (S1 w r (w7.setCell ⟨w.heap.size+1,5,none⟩ (.string o)) _ (w.heap.size+1) (.cells #[.int .i64 2,.string ⟨#[]⟩,.string ⟨#[]⟩,.slice none 0 0,.slice none 0 0,.string o,.slice none 0 0] 72 (0,0)) _ d):=Hd (K11.out.put 5 (.string o))
     refine (Es false d (tn7) r _ G8.out hd K12.out.rd K12.out.k).mono ?_
     intro e w13 h
     cases hv:Zp false d (tn7) with
     | error x =>
       rw [hv] at h
       obtain ⟨rfl,m⟩:=Yr h
       exact ⟨rfl,HQ.out _ _ (per (by simp only [Xx,Yl,E5.out,E10.out,hv,if_true]) (K12.out.mv.trans m))⟩
     | ok p =>
       obtain ⟨ds,tp13⟩:=p
       rw [hv] at h
       obtain ⟨⟨v,rfl,hl⟩,rr,mm⟩:=Jh h
       obtain ⟨A4,kA4,rfl,hts⟩:=Yx hl
       have G14:=Hd (G8.out.sub (Yj hv))
       have L15:=Hd (((Yj hv)).trans L9.out)
       have K16:=Hd (K12.out.next rr mm)
       have O17:=Hd (Ov.of hts K12.out.blt)
       have E18:=Hd hv
       clear rr mm hv hl hts h
       obtain ⟨y0,y1,y2,y3,y4,y5,y6,yz⟩:=svc K16.out.loc
       have yf0:=yz 0
       have yf1:=yz 1
       have yf2:=yz 2
       have yf3:=yz 3
       have yf4:=yz 4
       have yf5:=yz 5
       have yf6:=yz 6
       clear yz
       go_wp2_with fail
       clear y0 y1 y2 y3 y4 y5 y6 yf0 yf1 yf2 yf3 yf4 yf5 yf6
       have K19:Hid (S1 w r (w13.setCell ⟨w.heap.size+1,4,none⟩ (.slice A4 (Z5 Xc ds).len kA4)) _ (w.heap.size+1) (.cells #[.int .i64 2,.string ⟨#[]⟩,.string ⟨#[]⟩,.slice none 0 0,.slice A4 (Z5 Xc ds).len kA4,.string o,.slice none 0 0] 72 (0,0)) _ d):=Hd (K16.out.put 4 (.slice A4 (Z5 Xc ds).len kA4))
       have O20:Hid (Ov (w.heap.size+1) (w13.setCell ⟨w.heap.size+1,4,none⟩ (.slice A4 (Z5 Xc ds).len kA4)) _ _):=Hd (O17.out.put (i:=4) (v:=.slice A4 (Z5 Xc ds).len kA4) (Nat.le_refl _))
       refine (HSS.out (tp13) _ G14.out (L15.out.length_le) K19.out.rd K19.out.k).mono ?_
       intro e w21 h
       cases hv:S (tp13) with
       | error x =>
         rw [hv] at h
         obtain ⟨rfl,m⟩:=Yr h
         exact ⟨rfl,HQ.out _ _ (per (by simp only [Xx,Yl,E5.out,E10.out,E18.out,hv,if_true]) (K19.out.mv.trans m))⟩
       | ok p =>
         obtain ⟨sq,tp21⟩:=p
         rw [hv] at h
         obtain ⟨⟨v,rfl,hl⟩,rr,mm⟩:=Jh h
         obtain ⟨A6,kA6,rfl,hts⟩:=Yx hl
         have G22:=Hd (G14.out.sub (HFF.out _ _ _ hv).1)
         have L23:=Hd (((HFF.out _ _ _ hv).1).trans L15.out)
         have K24:=Hd (K19.out.next rr mm)
         have O25:=Hd (O20.out.next mm K19.out.rb)
         have O26:=Hd (Ov.of hts K19.out.blt)
         have E27:=Hd hv
         clear rr mm hv hl hts h
         obtain ⟨y0,y1,y2,y3,y4,y5,y6,yz⟩:=svc K24.out.loc
         have yf0:=yz 0
         have yf1:=yz 1
         have yf2:=yz 2
         have yf3:=yz 3
         have yf4:=yz 4
         have yf5:=yz 5
         have yf6:=yz 6
         clear yz
         obtain ⟨x0,x1,x2,x3,x4,x5,x6,xz⟩:=svc K24.out.res
         have xf0:=xz 0
         have xf1:=xz 1
         have xf2:=xz 2
         have xf3:=xz 3
         have xf4:=xz 4
         have xf5:=xz 5
         have xf6:=xz 6
         clear xz
         go_wp2_with fail
         clear y0 y1 y2 y3 y4 y5 y6 yf0 yf1 yf2 yf3 yf4 yf5 yf6 x0 x1 x2 x3 x4 x5 x6 xf0 xf1 xf2 xf3 xf4 xf5 xf6
         have K28:Hid (S1 w r (w21.setCell ⟨w.heap.size+1,6,none⟩ (.slice A6 (Z7 sq).len kA6)) _ (w.heap.size+1) (.cells #[.int .i64 2,.string ⟨#[]⟩,.string ⟨#[]⟩,.slice none 0 0,.slice A4 (Z5 Xc ds).len kA4,.string o,.slice A6 (Z7 sq).len kA6] 72 (0,0)) _ d):=Hd (K24.out.put 6 (.slice A6 (Z7 sq).len kA6))
         have O29:Hid (Ov (w.heap.size+1) (w21.setCell ⟨w.heap.size+1,6,none⟩ (.slice A6 (Z7 sq).len kA6)) _ _):=Hd (O25.out.put (i:=6) (v:=.slice A6 (Z7 sq).len kA6) (Nat.le_refl _))
         have O30:Hid (Ov (w.heap.size+1) (w21.setCell ⟨w.heap.size+1,6,none⟩ (.slice A6 (Z7 sq).len kA6)) _ _):=Hd (O26.out.put (i:=6) (v:=.slice A6 (Z7 sq).len kA6) (Nat.le_refl _))
         obtain ⟨f1,f2,f3⟩:=S1.fin (ys:=[.int .i64 0,.string ⟨#[]⟩,.string ⟨#[]⟩,.slice none 0 0,.slice none 0 0,.string ⟨#[]⟩,.slice none 0 0]) K28.out [.int .i64 2,.string ⟨#[]⟩,.string ⟨#[]⟩,.slice none 0 0,.slice A4 (Z5 Xc ds).len kA4,.string o,.slice A6 (Z7 sq).len kA6] rfl
         have Fd:=O29.out.fin (w:=w) (Nat.le_of_lt K28.out.bl) [.int .i64 2,.string ⟨#[]⟩,.string ⟨#[]⟩,.slice none 0 0,.slice A4 (Z5 Xc ds).len kA4,.string o,.slice A6 (Z7 sq).len kA6]
         have Fs:=O30.out.fin (w:=w) (Nat.le_of_lt K28.out.bl) [.int .i64 2,.string ⟨#[]⟩,.string ⟨#[]⟩,.slice none 0 0,.slice A4 (Z5 Xc ds).len kA4,.string o,.slice A6 (Z7 sq).len kA6]
         have FP:=HQ.out _ _ (X6 (a:=.mk 2 eB eB .nil ds o sq) (by simp only [Xx,Yl,E5.out,E10.out,E18.out,E27.out,if_true]) ⟨[.int .i64 2,.string ⟨#[]⟩,.string ⟨#[]⟩,.slice none 0 0,.slice A4 (Z5 Xc ds).len kA4,.string o,.slice A6 (Z7 sq).len kA6],rfl,(by rw [Gk];exact TS.int (TS.str (Nat.zero_le _) (TS.str (Nat.zero_le _) (TS.row (show TP _ _ (.row (Jf .nil)) _ by rw [Jf];exact TP.none _ _) (TS.row Fd (TS.str No.out (TS.row Fs (TS.nil _ _))))))))⟩ f2 f3)
         exact Y8 rfl rfl rfl f1 Tryz.underlying72 ⟨_,rfl⟩ (by kernel_rfl) FP
 | false =>
   rw [hb] at h
   obtain ⟨rfl,rr,mm⟩:=h
   rw [Vg hb] at rr
   have E31:=Hd hb
   have K32:=Hd (K1.out.next rr mm)
   clear rr mm hb
   go_wp2_with fail
   refine (Nb r ts d _ K32.out.rd).mono ?_
   intro e w33 h
   cases hb:Cn ts with
   | true =>
     rw [hb] at h
     obtain ⟨rfl,rfl⟩:=h
     obtain ⟨nm34,nt34,hn34⟩:=S7 hb
     have E35:=Hd hn34
     clear hb hn34
     obtain ⟨y0,y1,y2,y3,y4,y5,y6,yz⟩:=svc K32.out.loc
     have yf0:=yz 0
     have yf1:=yz 1
     have yf2:=yz 2
     have yf3:=yz 3
     have yf4:=yz 4
     have yf5:=yz 5
     have yf6:=yz 6
     clear yz
     go_wp2_with fail
     clear y0 y1 y2 y3 y4 y5 y6 yf0 yf1 yf2 yf3 yf4 yf5 yf6
     have K36:Hid (S1 w r (w2.setCell ⟨w.heap.size+1,0,none⟩ (.int .i64 1)) _ (w.heap.size+1) (.cells #[.int .i64 1,.string ⟨#[]⟩,.string ⟨#[]⟩,.slice none 0 0,.slice none 0 0,.string ⟨#[]⟩,.slice none 0 0] 72 (0,0)) _ d):=Hd (K32.out.put 0 (.int .i64 1))
     refine (Yd r (ts) d _ K36.out.rd).mono ?_
     intro e w37 h
     rw [E35.out] at h
     obtain ⟨rfl,rr,mm⟩:=h
     have Nnm34:=Hd (G0.out.name E35.out)
     have G38:=Hd (G0.out.sub (Zc E35.out).1)
     have L39:=Hd (((Zc E35.out).1).trans L0.out)
     have K40:=Hd (K36.out.next rr mm)
     clear rr mm
     obtain ⟨y0,y1,y2,y3,y4,y5,y6,yz⟩:=svc K40.out.loc
     have yf0:=yz 0
     have yf1:=yz 1
     have yf2:=yz 2
     have yf3:=yz 3
     have yf4:=yz 4
     have yf5:=yz 5
     have yf6:=yz 6
     clear yz
     go_wp2_with fail
     clear y0 y1 y2 y3 y4 y5 y6 yf0 yf1 yf2 yf3 yf4 yf5 yf6
     have K41:Hid (S1 w r (w37.setCell ⟨w.heap.size+1,2,none⟩ (.string nm34)) _ (w.heap.size+1) (.cells #[.int .i64 1,.string ⟨#[]⟩,.string nm34,.slice none 0 0,.slice none 0 0,.string ⟨#[]⟩,.slice none 0 0] 72 (0,0)) _ d):=Hd (K40.out.put 2 (.string nm34))
     refine (Es false d (nt34) r _ G38.out hd K41.out.rd K41.out.k).mono ?_
     intro e w42 h
     cases hv:Zp false d (nt34) with
     | error x =>
       rw [hv] at h
       obtain ⟨rfl,m⟩:=Yr h
       exact ⟨rfl,HQ.out _ _ (per (by simp only [Xx,Yl,E31.out,E35.out,hv,if_false,Bool.false_eq_true]) (K41.out.mv.trans m))⟩
     | ok p =>
       obtain ⟨ds,tp42⟩:=p
       rw [hv] at h
       obtain ⟨⟨v,rfl,hl⟩,rr,mm⟩:=Jh h
       obtain ⟨A4,kA4,rfl,hts⟩:=Yx hl
       have G43:=Hd (G38.out.sub (Yj hv))
       have L44:=Hd (((Yj hv)).trans L39.out)
       have K45:=Hd (K41.out.next rr mm)
       have O46:=Hd (Ov.of hts K41.out.blt)
       have E47:=Hd hv
       clear rr mm hv hl hts h
       obtain ⟨y0,y1,y2,y3,y4,y5,y6,yz⟩:=svc K45.out.loc
       have yf0:=yz 0
       have yf1:=yz 1
       have yf2:=yz 2
       have yf3:=yz 3
       have yf4:=yz 4
       have yf5:=yz 5
       have yf6:=yz 6
       clear yz
       obtain ⟨x0,x1,x2,x3,x4,x5,x6,xz⟩:=svc K45.out.res
       have xf0:=xz 0
       have xf1:=xz 1
       have xf2:=xz 2
       have xf3:=xz 3
       have xf4:=xz 4
       have xf5:=xz 5
       have xf6:=xz 6
       clear xz
       go_wp2_with fail
       clear y0 y1 y2 y3 y4 y5 y6 yf0 yf1 yf2 yf3 yf4 yf5 yf6 x0 x1 x2 x3 x4 x5 x6 xf0 xf1 xf2 xf3 xf4 xf5 xf6
       have K48:Hid (S1 w r (w42.setCell ⟨w.heap.size+1,4,none⟩ (.slice A4 (Z5 Xc ds).len kA4)) _ (w.heap.size+1) (.cells #[.int .i64 1,.string ⟨#[]⟩,.string nm34,.slice none 0 0,.slice A4 (Z5 Xc ds).len kA4,.string ⟨#[]⟩,.slice none 0 0] 72 (0,0)) _ d):=Hd (K45.out.put 4 (.slice A4 (Z5 Xc ds).len kA4))
       have O49:Hid (Ov (w.heap.size+1) (w42.setCell ⟨w.heap.size+1,4,none⟩ (.slice A4 (Z5 Xc ds).len kA4)) _ _):=Hd (O46.out.put (i:=4) (v:=.slice A4 (Z5 Xc ds).len kA4) (Nat.le_refl _))
       obtain ⟨f1,f2,f3⟩:=S1.fin (ys:=[.int .i64 0,.string ⟨#[]⟩,.string ⟨#[]⟩,.slice none 0 0,.slice none 0 0,.string ⟨#[]⟩,.slice none 0 0]) K48.out [.int .i64 1,.string ⟨#[]⟩,.string nm34,.slice none 0 0,.slice A4 (Z5 Xc ds).len kA4,.string ⟨#[]⟩,.slice none 0 0] rfl
       have Fd:=O49.out.fin (w:=w) (Nat.le_of_lt K48.out.bl) [.int .i64 1,.string ⟨#[]⟩,.string nm34,.slice none 0 0,.slice A4 (Z5 Xc ds).len kA4,.string ⟨#[]⟩,.slice none 0 0]
       have FP:=HQ.out _ _ (X6 (a:=.mk 1 eB nm34 .nil ds eB .nil) (by simp only [Xx,Yl,E31.out,E35.out,E47.out,if_false,Bool.false_eq_true]) ⟨[.int .i64 1,.string ⟨#[]⟩,.string nm34,.slice none 0 0,.slice A4 (Z5 Xc ds).len kA4,.string ⟨#[]⟩,.slice none 0 0],rfl,(by rw [Gk];exact TS.int (TS.str (Nat.zero_le _) (TS.str Nnm34.out (TS.row (show TP _ _ (.row (Jf .nil)) _ by rw [Jf];exact TP.none _ _) (TS.row Fd (TS.str (Nat.zero_le _) (TS.row (show TP _ _ (.row (Z7 .nil)) _ by rw [Z7];exact TP.none _ _) (TS.nil _ _))))))))⟩ f2 f3)
       exact Y8 rfl rfl rfl f1 Tryz.underlying72 ⟨_,rfl⟩ (by kernel_rfl) FP
   | false =>
     rw [hb] at h
     obtain ⟨rfl,rfl⟩:=h
     have hn50:=Zq3 hb
     have E51:=Hd hn50
     clear hb hn50
     go_wp2_with fail
     refine (Es false d (ts) r _ G0.out hd K32.out.rd K32.out.k).mono ?_
     intro e w52 h
     cases hv:Zp false d (ts) with
     | error x =>
       rw [hv] at h
       obtain ⟨rfl,m⟩:=Yr h
       exact ⟨rfl,HQ.out _ _ (per (by simp only [Xx,Yl,E31.out,E51.out,hv,if_false,Bool.false_eq_true]) (K32.out.mv.trans m))⟩
     | ok p =>
       obtain ⟨ds,tp52⟩:=p
       rw [hv] at h
       obtain ⟨⟨v,rfl,hl⟩,rr,mm⟩:=Jh h
       obtain ⟨A4,kA4,rfl,hts⟩:=Yx hl
       have G53:=Hd (G0.out.sub (Yj hv))
       have L54:=Hd (((Yj hv)).trans L0.out)
       have K55:=Hd (K32.out.next rr mm)
       have O56:=Hd (Ov.of hts K32.out.blt)
       have E57:=Hd hv
       clear rr mm hv hl hts h
       obtain ⟨y0,y1,y2,y3,y4,y5,y6,yz⟩:=svc K55.out.loc
       have yf0:=yz 0
       have yf1:=yz 1
       have yf2:=yz 2
       have yf3:=yz 3
       have yf4:=yz 4
       have yf5:=yz 5
       have yf6:=yz 6
       clear yz
       go_wp2_with fail
       clear y0 y1 y2 y3 y4 y5 y6 yf0 yf1 yf2 yf3 yf4 yf5 yf6
       have K58:Hid (S1 w r (w52.setCell ⟨w.heap.size+1,4,none⟩ (.slice A4 (Z5 Xc ds).len kA4)) _ (w.heap.size+1) (.cells #[.int .i64 2,.string ⟨#[]⟩,.string ⟨#[]⟩,.slice none 0 0,.slice A4 (Z5 Xc ds).len kA4,.string ⟨#[]⟩,.slice none 0 0] 72 (0,0)) _ d):=Hd (K55.out.put 4 (.slice A4 (Z5 Xc ds).len kA4))
       have O59:Hid (Ov (w.heap.size+1) (w52.setCell ⟨w.heap.size+1,4,none⟩ (.slice A4 (Z5 Xc ds).len kA4)) _ _):=Hd (O56.out.put (i:=4) (v:=.slice A4 (Z5 Xc ds).len kA4) (Nat.le_refl _))
       refine (HSS.out (tp52) _ G53.out (L54.out.length_le) K58.out.rd K58.out.k).mono ?_
       intro e w60 h
       cases hv:S (tp52) with
       | error x =>
         rw [hv] at h
         obtain ⟨rfl,m⟩:=Yr h
         exact ⟨rfl,HQ.out _ _ (per (by simp only [Xx,Yl,E31.out,E51.out,E57.out,hv,if_false,Bool.false_eq_true]) (K58.out.mv.trans m))⟩
       | ok p =>
         obtain ⟨sq,tp60⟩:=p
         rw [hv] at h
         obtain ⟨⟨v,rfl,hl⟩,rr,mm⟩:=Jh h
         obtain ⟨A6,kA6,rfl,hts⟩:=Yx hl
         have G61:=Hd (G53.out.sub (HFF.out _ _ _ hv).1)
         have L62:=Hd (((HFF.out _ _ _ hv).1).trans L54.out)
         have K63:=Hd (K58.out.next rr mm)
         have O64:=Hd (O59.out.next mm K58.out.rb)
         have O65:=Hd (Ov.of hts K58.out.blt)
         have E66:=Hd hv
         clear rr mm hv hl hts h
         obtain ⟨y0,y1,y2,y3,y4,y5,y6,yz⟩:=svc K63.out.loc
         have yf0:=yz 0
         have yf1:=yz 1
         have yf2:=yz 2
         have yf3:=yz 3
         have yf4:=yz 4
         have yf5:=yz 5
         have yf6:=yz 6
         clear yz
         obtain ⟨x0,x1,x2,x3,x4,x5,x6,xz⟩:=svc K63.out.res
         have xf0:=xz 0
         have xf1:=xz 1
         have xf2:=xz 2
         have xf3:=xz 3
         have xf4:=xz 4
         have xf5:=xz 5
         have xf6:=xz 6
         clear xz
         go_wp2_with fail
         clear y0 y1 y2 y3 y4 y5 y6 yf0 yf1 yf2 yf3 yf4 yf5 yf6 x0 x1 x2 x3 x4 x5 x6 xf0 xf1 xf2 xf3 xf4 xf5 xf6
         have K67:Hid (S1 w r (w60.setCell ⟨w.heap.size+1,6,none⟩ (.slice A6 (Z7 sq).len kA6)) _ (w.heap.size+1) (.cells #[.int .i64 2,.string ⟨#[]⟩,.string ⟨#[]⟩,.slice none 0 0,.slice A4 (Z5 Xc ds).len kA4,.string ⟨#[]⟩,.slice A6 (Z7 sq).len kA6] 72 (0,0)) _ d):=Hd (K63.out.put 6 (.slice A6 (Z7 sq).len kA6))
         have O68:Hid (Ov (w.heap.size+1) (w60.setCell ⟨w.heap.size+1,6,none⟩ (.slice A6 (Z7 sq).len kA6)) _ _):=Hd (O64.out.put (i:=6) (v:=.slice A6 (Z7 sq).len kA6) (Nat.le_refl _))
         have O69:Hid (Ov (w.heap.size+1) (w60.setCell ⟨w.heap.size+1,6,none⟩ (.slice A6 (Z7 sq).len kA6)) _ _):=Hd (O65.out.put (i:=6) (v:=.slice A6 (Z7 sq).len kA6) (Nat.le_refl _))
         obtain ⟨f1,f2,f3⟩:=S1.fin (ys:=[.int .i64 0,.string ⟨#[]⟩,.string ⟨#[]⟩,.slice none 0 0,.slice none 0 0,.string ⟨#[]⟩,.slice none 0 0]) K67.out [.int .i64 2,.string ⟨#[]⟩,.string ⟨#[]⟩,.slice none 0 0,.slice A4 (Z5 Xc ds).len kA4,.string ⟨#[]⟩,.slice A6 (Z7 sq).len kA6] rfl
         have Fd:=O68.out.fin (w:=w) (Nat.le_of_lt K67.out.bl) [.int .i64 2,.string ⟨#[]⟩,.string ⟨#[]⟩,.slice none 0 0,.slice A4 (Z5 Xc ds).len kA4,.string ⟨#[]⟩,.slice A6 (Z7 sq).len kA6]
         have Fs:=O69.out.fin (w:=w) (Nat.le_of_lt K67.out.bl) [.int .i64 2,.string ⟨#[]⟩,.string ⟨#[]⟩,.slice none 0 0,.slice A4 (Z5 Xc ds).len kA4,.string ⟨#[]⟩,.slice A6 (Z7 sq).len kA6]
         have FP:=HQ.out _ _ (X6 (a:=.mk 2 eB eB .nil ds eB sq) (by simp only [Xx,Yl,E31.out,E51.out,E57.out,E66.out,if_false,Bool.false_eq_true]) ⟨[.int .i64 2,.string ⟨#[]⟩,.string ⟨#[]⟩,.slice none 0 0,.slice A4 (Z5 Xc ds).len kA4,.string ⟨#[]⟩,.slice A6 (Z7 sq).len kA6],rfl,(by rw [Gk];exact TS.int (TS.str (Nat.zero_le _) (TS.str (Nat.zero_le _) (TS.row (show TP _ _ (.row (Jf .nil)) _ by rw [Jf];exact TP.none _ _) (TS.row Fd (TS.str (Nat.zero_le _) (TS.row Fs (TS.nil _ _))))))))⟩ f2 f3)
         exact Y8 rfl rfl rfl f1 Tryz.underlying72 ⟨_,rfl⟩ (by kernel_rfl) FP
theorem R9 (S : Ul) (HF:∀ ts l r,S ts=.ok (l,r)→Sfx r ts) (d:Nat) (ts:List Tok) (r:Nat) (w:World) (HS:∀ tq wx,Xb tq→tq.length≤ts.length→Rd wx r tq d→KRd r wx→Calls Tryz.prog 96 #[.pointer (some ⟨r,0,none⟩)] wx (L8 r d wx (Zxh Z7) (S tq))) (hG:Xb ts) (hd:d≤16) (hR:Rd w r ts d) (hK:KRd r w):Calls Tryz.prog 172 #[.pointer (some ⟨r,0,none⟩)] w (L8 r d w (Gt Gk) (Jo S d ts)):=by
 refine cQE (fun Q hQ=>?_)
 have HQ:=Hd hQ
 have L0:=Hd (List.suffix_refl ts)
 have HSS:=Hd HS
 have HFF:=Hd HF
 have K0:=Hd (S0.start hR hK #[.int .i64 0,.string ⟨#[]⟩,.string ⟨#[]⟩,.slice none 0 0,.slice none 0 0,.string ⟨#[]⟩,.slice none 0 0] 72)
 have G0:=Hd hG
 clear hQ hR hK hG HS HF
 go_enter Tryz.func172,Tryz.ntmps172
 go_wp2_with fail
 refine (Zv r ts d 1 Yn _ K0.out.rd).mono ?_
 intro e w1 h
 cases hb:atB 1 Yn ts with
 | true =>
   rw [hb] at h
   obtain ⟨rfl,rr,mm⟩:=h
   rw [Jl hb] at rr
   have G2:=Hd (G0.out.sub (Zf hb).1)
   have L3:=Hd (((Zf hb).1).trans L0.out)
   have E4:=Hd hb
   have K5:=Hd (K0.out.next rr mm)
   clear rr mm hb
   go_wp2_with fail
   refine (Zxa S HFF.out d (ts.tail) r _ (fun tq wx g l=>HSS.out tq wx g (Nat.le_trans l L3.out.length_le)) G2.out hd K5.out.rd K5.out.k).mono ?_
   intro e w3 h
   cases hv:Xx S d ts.tail with
   | error x =>
     rw [hv] at h
     obtain ⟨rfl,m⟩:=Yr h
     exact ⟨rfl,HQ.out _ _ (per (by simp only [Jo,I5,E4.out,hv,if_true]) (K5.out.mv.trans m))⟩
   | ok p =>
     obtain ⟨a,tp⟩:=p
     rw [hv] at h
     obtain ⟨⟨v,rfl,hl⟩,rr,mm⟩:=Jh h
     obtain ⟨i0,s1,s2,A3,n3,k3,A4,n4,k4,s5,A6,n6,k6,rfl,hts⟩:=Zkw hl
     have T1:=Hd (OvS.of hts K5.out.lt)
     have E6:=Hd hv
     have K7:=Hd (K5.out.next rr mm)
     clear rr mm hl hts h hv
     obtain ⟨x0,x1,x2,x3,x4,x5,x6,xz⟩:=svc K7.out.res
     have xf0:=xz 0
     have xf1:=xz 1
     have xf2:=xz 2
     have xf3:=xz 3
     have xf4:=xz 4
     have xf5:=xz 5
     have xf6:=xz 6
     clear xz
     go_wp2_with fail
     obtain ⟨f1,f2,f3⟩:=S0.fin (ys:=[.int .i64 0,.string ⟨#[]⟩,.string ⟨#[]⟩,.slice none 0 0,.slice none 0 0,.string ⟨#[]⟩,.slice none 0 0]) K7.out [.int .i64 i0,.string s1,.string s2,.slice A3 n3 k3,.slice A4 n4 k4,.string s5,.slice A6 n6 k6] rfl
     have FT:=T1.out.fin (w:=w) (Nat.le_refl _) [.int .i64 i0,.string s1,.string s2,.slice A3 n3 k3,.slice A4 n4 k4,.string s5,.slice A6 n6 k6]
     have FP:=HQ.out _ _ (X6 (a:=a) (by simp only [Jo,I5,E4.out,E6.out,if_true]) ⟨[.int .i64 i0,.string s1,.string s2,.slice A3 n3 k3,.slice A4 n4 k4,.string s5,.slice A6 n6 k6],rfl,FT⟩ f2 f3)
     exact Y8 rfl rfl rfl f1 Tryz.underlying72 ⟨_,rfl⟩ (by kernel_rfl) FP
 | false =>
   rw [hb] at h
   obtain ⟨rfl,rr,mm⟩:=h
   rw [Vg hb] at rr
   have E8:=Hd hb
   have K9:=Hd (K0.out.next rr mm)
   clear rr mm hb
   go_wp2_with fail
   refine (Yd r (ts) d _ K9.out.rd).mono ?_
   intro e w10 h
   cases hn:Zb (ts) with
   | none =>
     rw [hn] at h
     obtain ⟨rfl,m⟩:=h
     exact ⟨rfl,HQ.out _ _ (per (by simp only [Jo,I5,E8.out,hn,if_false,Bool.false_eq_true]) (K9.out.mv.trans m))⟩
   | some p =>
     obtain ⟨n,tn10⟩:=p
     rw [hn] at h
     obtain ⟨rfl,rr,mm⟩:=h
     have Nn:=Hd (G0.out.name hn)
     have G11:=Hd (G0.out.sub (Zc hn).1)
     have L12:=Hd (((Zc hn).1).trans L0.out)
     have E13:=Hd hn
     have K14:=Hd (K9.out.next rr mm)
     clear rr mm hn
     go_wp2_with fail
     have K15:=Hd (S1.make K14.out #[.int .i64 0,.string ⟨#[]⟩,.string n,.slice none 0 0,.slice none 0 0,.string ⟨#[]⟩,.slice none 0 0] 72)
     refine (Zv r tn10 d 1 Jq _ K15.out.rd).mono ?_
     intro e w16 h
     refine Or.elim (Bool.eq_false_or_eq_true (atB 1 Jq tn10)).symm (fun hb=>?_) (fun hb=>?_)
     focus
      rw [hb] at h
      obtain ⟨rfl,rr,mm⟩:=h
      rw [Vg hb] at rr
      have E17:=Hd hb
      have K18:=Hd (K15.out.next rr mm)
      clear rr mm hb
      go_wp2_with fail
      have HE:Hid (Jo S d ts=Ua S d (eB) (n) (tn10)):=Hd (by simp only [Jo,I5,E8.out,E13.out,E17.out,if_false,Bool.false_eq_true])
      obtain ⟨AL,hAL⟩:∃ zz:ByteArray,eB=zz:=⟨_,rfl⟩
      obtain ⟨NM,hNM⟩:∃ zz:ByteArray,n=zz:=⟨_,rfl⟩
      obtain ⟨TQ,hTQ⟩:∃ zz:List Tok,tn10=zz:=⟨_,rfl⟩
      rw [hAL,hNM,hTQ] at HE
      have KJ:Hid (S1 w r w16 (.cells #[.int .i64 0,.string ⟨#[]⟩,.string ⟨#[]⟩,.slice none 0 0,.slice none 0 0,.string ⟨#[]⟩,.slice none 0 0] 72 (0,0)) (w10.heap.size) (.cells #[.int .i64 0,.string AL,.string NM,.slice none 0 0,.slice none 0 0,.string ⟨#[]⟩,.slice none 0 0] 72 (0,0)) TQ d):=by rw [← hAL,← hNM,← hTQ];exact K18
      have GJ:Hid (Xb TQ):=by rw [← hTQ];exact G11
      have LJ:Hid (TQ <:+ ts):=by rw [← hTQ];exact L12
      have NA:Hid (AL.size≤9000):=Hd (by rw [← hAL];exact (Nat.zero_le _))
      have NB:Hid (NM.size≤9000):=Hd (by rw [← hNM];exact Nn.out)
      clear hAL hNM hTQ K18
      generalize w16=wj at KJ ⊢
     rotate_left
     focus
      rw [hb] at h
      obtain ⟨rfl,rr,mm⟩:=h
      rw [Jl hb] at rr
      have G19:=Hd (G11.out.sub (Zf hb).1)
      have L20:=Hd (((Zf hb).1).trans L12.out)
      have E21:=Hd hb
      have K22:=Hd (K15.out.next rr mm)
      clear rr mm hb
      have K23:=Hd (K22.out.next (K22.out.rd.below (Below.drew (Below.refl _ _))) (Z0.of_below (Below.drew (Below.refl _ _))))
      obtain ⟨y0,y1,y2,y3,y4,y5,y6,yz⟩:=svc K23.out.loc
      have yf0:=yz 0
      have yf1:=yz 1
      have yf2:=yz 2
      have yf3:=yz 3
      have yf4:=yz 4
      have yf5:=yz 5
      have yf6:=yz 6
      clear yz
      go_wp2_with fail
      rcases hn:Zb (tn10.tail) with _|p
      · skip
        refine wp_region_held_drew (S:=fun _=>True) (by kernel_rfl) trivial (fun _=>?_)
        refine tkE (i:=0) (v:=?_) rfl (Or.inl ⟨by rfl,?_⟩) ?_
        rotate_left
        · (intro w _;go_simp;try with_reducible rfl)
        simp only [Act.put,List.setIfInBounds_toArray]
        refine tkE (i:=2) (v:=?_) rfl (Or.inl ⟨by rfl,?_⟩) ?_
        rotate_left
        · (intro w _;go_simp;try with_reducible rfl)
        simp only [Act.put]
        refine rdE (rs:=[1,3]) ?_
        refine AllReadyH.cons rfl (fun K hK=>?_) ?_
        · skip
          go_simp
          refine hK.out _ _ trivial (fun _=>?_)
          clear hK K
          try simp only [Act.put,stT,stZ,stS]
          refine tkE (i:=4) (v:=?_) rfl (Or.inl ⟨by rfl,?_⟩) ?_
          rotate_left
          · (intro w _;go_simp;try with_reducible rfl)
          simp only [Act.put,List.setIfInBounds_toArray]
          refine rd1E 3 rfl (fun K hK=>?_)
          go_simp
          go_at_call 117
          refine (Yd r (tn10.tail) d _ K23.out.rd).mono ?_
          intro e w9 h
          rw [hn] at h
          obtain ⟨rfl,m⟩:=h
          exact ⟨rfl,HQ.out _ _ (per (by simp only [Jo,I5,E8.out,E13.out,E21.out,hn,if_true,if_false,Bool.false_eq_true]) (K23.out.mv.trans m))⟩
        refine AllReadyH.cons rfl (fun K hK=>?_) AllReadyH.nil
        go_simp
        go_at_call 117
        refine (Yd r (tn10.tail) d _ K23.out.rd).mono ?_
        intro e w9 h
        rw [hn] at h
        obtain ⟨rfl,m⟩:=h
        exact ⟨rfl,HQ.out _ _ (per (by simp only [Jo,I5,E8.out,E13.out,E21.out,hn,if_true,if_false,Bool.false_eq_true]) (K23.out.mv.trans m))⟩
      obtain ⟨n2,nt2⟩:=p
      have Nn2:=Hd (G19.out.name hn)
      have E24:=Hd hn
      have hnn:=Hd hn
      clear hn
      refine wp_region_held_drew (S:=fun _=>True) (by kernel_rfl) trivial (fun _=>?_)
      refine tkE (i:=0) (v:=?_) rfl (Or.inl ⟨by rfl,?_⟩) ?_
      rotate_left
      · (intro w _;go_simp;try with_reducible rfl)
      simp only [Act.put,List.setIfInBounds_toArray]
      refine tkE (i:=2) (v:=?_) rfl (Or.inl ⟨by rfl,?_⟩) ?_
      rotate_left
      · (intro w _;go_simp;try with_reducible rfl)
      simp only [Act.put]
      refine rd2E 1 3 rfl rfl (fun K hK=>?_) (fun K hK=>?_)
      focus
        go_simp
        refine hK.out _ _ trivial (fun _=>?_)
        clear hK K
        try simp only [Act.put,stT,stZ,stS]
        refine tkE (i:=4) (v:=?_) rfl (Or.inl ⟨by rfl,?_⟩) ?_
        rotate_left
        · (intro w _;go_simp;try with_reducible rfl)
        simp only [Act.put,List.setIfInBounds_toArray]
        refine rd1E 3 rfl (fun K hK=>?_)
        go_simp
        go_at_call 117
        refine (Yd r (tn10.tail) d _ K23.out.rd).mono ?_
        intro e w9 h
        rw [hnn.out] at h
        obtain ⟨rfl,rr,mm⟩:=h
        clear y0 y1 y2 y3 y4 y5 y6 yf0 yf1 yf2 yf3 yf4 yf5 yf6
        have G25:=Hd (G19.out.sub (Zc hnn.out).1)
        have L26:=Hd (((Zc hnn.out).1).trans L20.out)
        have K27:=Hd (K23.out.next rr mm)
        clear rr mm
        obtain ⟨y0,y1,y2,y3,y4,y5,y6,yz⟩:=svc K27.out.loc
        have yf0:=yz 0
        have yf1:=yz 1
        have yf2:=yz 2
        have yf3:=yz 3
        have yf4:=yz 4
        have yf5:=yz 5
        have yf6:=yz 6
        clear yz
        refine hK.out _ _ trivial (fun _=>?_)
        clear hK K
        try simp only [Act.put,stT,stZ,stS]
        refine rd1E 5 rfl (fun K hK=>?_)
        go_simp
        refine hK.out _ _ trivial (fun _=>?_)
        clear hK K
        try simp only [Act.put,stT,stZ,stS]
        refine tkE (i:=6) (v:=?_) rfl (Or.inl ⟨by rfl,?_⟩) ?_
        rotate_left
        · (intro w _;go_simp;try with_reducible rfl)
        simp only [Act.put,List.setIfInBounds_toArray]
        refine rd1E 7 rfl (fun K hK=>?_)
        go_simp
        refine hK.out _ _ trivial (fun _=>?_)
        clear hK K
        try simp only [Act.put,stT,stZ,stS]
        refine wpAnyH_done (by kernel_rfl) ?_ _
        go_wp2_with fail
        clear y0 y1 y2 y3 y4 y5 y6 yf0 yf1 yf2 yf3 yf4 yf5 yf6
        have K28:Hid (S1 w r ((w9.setCell ⟨w10.heap.size,1,none⟩ (.string n)).setCell ⟨w10.heap.size,2,none⟩ (.string n2)) _ (w10.heap.size) (.cells #[.int .i64 0,.string n,.string n2,.slice none 0 0,.slice none 0 0,.string ⟨#[]⟩,.slice none 0 0] 72 (0,0)) _ d):=Hd ((K27.out.put 1 (.string n)).put 2 (.string n2))
        generalize ((w9.setCell ⟨w10.heap.size,1,none⟩ (.string n)).setCell ⟨w10.heap.size,2,none⟩ (.string n2))=wz29 at K28 ⊢
        have HE:Hid (Jo S d ts=Ua S d (n) (n2) (nt2)):=Hd (by simp only [Jo,I5,E8.out,E13.out,E21.out,E24.out,if_true,if_false,Bool.false_eq_true])
        obtain ⟨AL,hAL⟩:∃ zz:ByteArray,n=zz:=⟨_,rfl⟩
        obtain ⟨NM,hNM⟩:∃ zz:ByteArray,n2=zz:=⟨_,rfl⟩
        obtain ⟨TQ,hTQ⟩:∃ zz:List Tok,nt2=zz:=⟨_,rfl⟩
        rw [hAL,hNM,hTQ] at HE
        have KJ:Hid (S1 w r wz29 (.cells #[.int .i64 0,.string ⟨#[]⟩,.string ⟨#[]⟩,.slice none 0 0,.slice none 0 0,.string ⟨#[]⟩,.slice none 0 0] 72 (0,0)) (w10.heap.size) (.cells #[.int .i64 0,.string AL,.string NM,.slice none 0 0,.slice none 0 0,.string ⟨#[]⟩,.slice none 0 0] 72 (0,0)) TQ d):=by rw [← hAL,← hNM,← hTQ];exact K28
        have GJ:Hid (Xb TQ):=by rw [← hTQ];exact G25
        have LJ:Hid (TQ <:+ ts):=by rw [← hTQ];exact L26
        have NA:Hid (AL.size≤9000):=Hd (by rw [← hAL];exact Nn.out)
        have NB:Hid (NM.size≤9000):=Hd (by rw [← hNM];exact Nn2.out)
        clear hAL hNM hTQ K28
        generalize wz29=wj at KJ ⊢
      rotate_left
      focus
        go_simp
        go_at_call 117
        refine (Yd r (tn10.tail) d _ K23.out.rd).mono ?_
        intro e w9 h
        rw [hnn.out] at h
        obtain ⟨rfl,rr,mm⟩:=h
        clear y0 y1 y2 y3 y4 y5 y6 yf0 yf1 yf2 yf3 yf4 yf5 yf6
        have G30:=Hd (G19.out.sub (Zc hnn.out).1)
        have L31:=Hd (((Zc hnn.out).1).trans L20.out)
        have K32:=Hd (K23.out.next rr mm)
        clear rr mm
        obtain ⟨y0,y1,y2,y3,y4,y5,y6,yz⟩:=svc K32.out.loc
        have yf0:=yz 0
        have yf1:=yz 1
        have yf2:=yz 2
        have yf3:=yz 3
        have yf4:=yz 4
        have yf5:=yz 5
        have yf6:=yz 6
        clear yz
        refine hK.out _ _ trivial (fun _=>?_)
        clear hK K
        try simp only [Act.put,stT,stZ,stS]
        refine rd1E 1 rfl (fun K hK=>?_)
        go_simp
        refine hK.out _ _ trivial (fun _=>?_)
        clear hK K
        try simp only [Act.put,stT,stZ,stS]
        refine tkE (i:=4) (v:=?_) rfl (Or.inl ⟨by rfl,?_⟩) ?_
        rotate_left
        · (intro w _;go_simp;try with_reducible rfl)
        simp only [Act.put,List.setIfInBounds_toArray]
        refine rd1E 5 rfl (fun K hK=>?_)
        go_simp
        refine hK.out _ _ trivial (fun _=>?_)
        clear hK K
        try simp only [Act.put,stT,stZ,stS]
        refine tkE (i:=6) (v:=?_) rfl (Or.inl ⟨by rfl,?_⟩) ?_
        rotate_left
        · (intro w _;go_simp;try with_reducible rfl)
        simp only [Act.put,List.setIfInBounds_toArray]
        refine rd1E 7 rfl (fun K hK=>?_)
        go_simp
        refine hK.out _ _ trivial (fun _=>?_)
        clear hK K
        try simp only [Act.put,stT,stZ,stS]
        refine wpAnyH_done (by kernel_rfl) ?_ _
        go_wp2_with fail
        clear y0 y1 y2 y3 y4 y5 y6 yf0 yf1 yf2 yf3 yf4 yf5 yf6
        have K33:Hid (S1 w r ((w9.setCell ⟨w10.heap.size,1,none⟩ (.string n)).setCell ⟨w10.heap.size,2,none⟩ (.string n2)) _ (w10.heap.size) (.cells #[.int .i64 0,.string n,.string n2,.slice none 0 0,.slice none 0 0,.string ⟨#[]⟩,.slice none 0 0] 72 (0,0)) _ d):=Hd ((K32.out.put 1 (.string n)).put 2 (.string n2))
        generalize ((w9.setCell ⟨w10.heap.size,1,none⟩ (.string n)).setCell ⟨w10.heap.size,2,none⟩ (.string n2))=wz34 at K33 ⊢
        have HE:Hid (Jo S d ts=Ua S d (n) (n2) (nt2)):=Hd (by simp only [Jo,I5,E8.out,E13.out,E21.out,E24.out,if_true,if_false,Bool.false_eq_true])
        obtain ⟨AL,hAL⟩:∃ zz:ByteArray,n=zz:=⟨_,rfl⟩
        obtain ⟨NM,hNM⟩:∃ zz:ByteArray,n2=zz:=⟨_,rfl⟩
        obtain ⟨TQ,hTQ⟩:∃ zz:List Tok,nt2=zz:=⟨_,rfl⟩
        rw [hAL,hNM,hTQ] at HE
        have KJ:Hid (S1 w r wz34 (.cells #[.int .i64 0,.string ⟨#[]⟩,.string ⟨#[]⟩,.slice none 0 0,.slice none 0 0,.string ⟨#[]⟩,.slice none 0 0] 72 (0,0)) (w10.heap.size) (.cells #[.int .i64 0,.string AL,.string NM,.slice none 0 0,.slice none 0 0,.string ⟨#[]⟩,.slice none 0 0] 72 (0,0)) TQ d):=by rw [← hAL,← hNM,← hTQ];exact K33
        have GJ:Hid (Xb TQ):=by rw [← hTQ];exact G30
        have LJ:Hid (TQ <:+ ts):=by rw [← hTQ];exact L31
        have NA:Hid (AL.size≤9000):=Hd (by rw [← hAL];exact Nn.out)
        have NB:Hid (NM.size≤9000):=Hd (by rw [← hNM];exact Nn2.out)
        clear hAL hNM hTQ K33
        generalize wz34=wj at KJ ⊢
     all_goals
      refine (Zjv false d (TQ) r _ GJ.out hd KJ.out.rd KJ.out.k).mono ?_
      intro e w201 h
      cases hv:Ym false d (TQ) with
      | error x =>
        rw [hv] at h
        obtain ⟨rfl,m⟩:=Yr h
        exact ⟨rfl,HQ.out _ _ (per (by simp only [Ua,HE.out,hv]) (KJ.out.mv.trans m))⟩
      | ok p =>
        obtain ⟨g,tp201⟩:=p
        rw [hv] at h
        obtain ⟨⟨v,rfl,hl⟩,rr,mm⟩:=Jh h
        obtain ⟨A3,kA3,rfl,hts⟩:=Yx hl
        have G202:=Hd (GJ.out.sub (Jk hv))
        have L203:=Hd (((Jk hv)).trans LJ.out)
        have K204:=Hd (KJ.out.next rr mm)
        have O205:=Hd (Ov.of hts KJ.out.blt)
        have E206:=Hd hv
        clear rr mm hv hl hts h
        obtain ⟨y0,y1,y2,y3,y4,y5,y6,yz⟩:=svc K204.out.loc
        have yf0:=yz 0
        have yf1:=yz 1
        have yf2:=yz 2
        have yf3:=yz 3
        have yf4:=yz 4
        have yf5:=yz 5
        have yf6:=yz 6
        clear yz
        go_wp2_with fail
        clear y0 y1 y2 y3 y4 y5 y6 yf0 yf1 yf2 yf3 yf4 yf5 yf6
        have K207:Hid (S1 w r (w201.setCell ⟨w10.heap.size,3,none⟩ (.slice A3 (Jf g).len kA3)) _ (w10.heap.size) (.cells #[.int .i64 0,.string AL,.string NM,.slice A3 (Jf g).len kA3,.slice none 0 0,.string ⟨#[]⟩,.slice none 0 0] 72 (0,0)) _ d):=Hd (K204.out.put 3 (.slice A3 (Jf g).len kA3))
        have O208:Hid (Ov (w10.heap.size) (w201.setCell ⟨w10.heap.size,3,none⟩ (.slice A3 (Jf g).len kA3)) _ _):=Hd (O205.out.put (i:=3) (v:=.slice A3 (Jf g).len kA3) (Nat.le_refl _))
        generalize (w201.setCell ⟨w10.heap.size,3,none⟩ (.slice A3 (Jf g).len kA3))=wz209 at K207 O208 ⊢
        refine (Es false d (tp201) r _ G202.out hd K207.out.rd K207.out.k).mono ?_
        intro e w210 h
        cases hv:Zp false d (tp201) with
        | error x =>
          rw [hv] at h
          obtain ⟨rfl,m⟩:=Yr h
          exact ⟨rfl,HQ.out _ _ (per (by simp only [Ua,HE.out,E206.out,hv]) (K207.out.mv.trans m))⟩
        | ok p =>
          obtain ⟨ds,tp210⟩:=p
          rw [hv] at h
          obtain ⟨⟨v,rfl,hl⟩,rr,mm⟩:=Jh h
          obtain ⟨A4,kA4,rfl,hts⟩:=Yx hl
          have G211:=Hd (G202.out.sub (Yj hv))
          have L212:=Hd (((Yj hv)).trans L203.out)
          have K213:=Hd (K207.out.next rr mm)
          have O214:=Hd (O208.out.next mm K207.out.rb)
          have O215:=Hd (Ov.of hts K207.out.blt)
          have E216:=Hd hv
          clear rr mm hv hl hts h
          obtain ⟨y0,y1,y2,y3,y4,y5,y6,yz⟩:=svc K213.out.loc
          have yf0:=yz 0
          have yf1:=yz 1
          have yf2:=yz 2
          have yf3:=yz 3
          have yf4:=yz 4
          have yf5:=yz 5
          have yf6:=yz 6
          clear yz
          go_wp2_with fail
          clear y0 y1 y2 y3 y4 y5 y6 yf0 yf1 yf2 yf3 yf4 yf5 yf6
          have K217:Hid (S1 w r (w210.setCell ⟨w10.heap.size,4,none⟩ (.slice A4 (Z5 Xc ds).len kA4)) _ (w10.heap.size) (.cells #[.int .i64 0,.string AL,.string NM,.slice A3 (Jf g).len kA3,.slice A4 (Z5 Xc ds).len kA4,.string ⟨#[]⟩,.slice none 0 0] 72 (0,0)) _ d):=Hd (K213.out.put 4 (.slice A4 (Z5 Xc ds).len kA4))
          have O218:Hid (Ov (w10.heap.size) (w210.setCell ⟨w10.heap.size,4,none⟩ (.slice A4 (Z5 Xc ds).len kA4)) _ _):=Hd (O214.out.put (i:=4) (v:=.slice A4 (Z5 Xc ds).len kA4) (Nat.le_refl _))
          have O219:Hid (Ov (w10.heap.size) (w210.setCell ⟨w10.heap.size,4,none⟩ (.slice A4 (Z5 Xc ds).len kA4)) _ _):=Hd (O215.out.put (i:=4) (v:=.slice A4 (Z5 Xc ds).len kA4) (Nat.le_refl _))
          generalize (w210.setCell ⟨w10.heap.size,4,none⟩ (.slice A4 (Z5 Xc ds).len kA4))=wz220 at K217 O218 O219 ⊢
          refine (U6 r tp210 d 1 omB _ K217.out.rd).mono ?_
          intro e w221 h
          cases hb:atB 1 omB tp210 with
          | true =>
            rw [hb] at h
            obtain ⟨rfl,rfl⟩:=h
            have E222:=Hd hb
            clear hb
            go_wp2_with fail
            refine (HSS.out (tp210) _ G211.out (L212.out.length_le) K217.out.rd K217.out.k).mono ?_
            intro e w223 h
            cases hv:S (tp210) with
            | error x =>
              rw [hv] at h
              obtain ⟨rfl,m⟩:=Yr h
              exact ⟨rfl,HQ.out _ _ (per (by simp only [Ua,HE.out,E206.out,E216.out,E222.out,hv,if_true]) (K217.out.mv.trans m))⟩
            | ok p =>
              obtain ⟨sq,tp223⟩:=p
              rw [hv] at h
              obtain ⟨⟨v,rfl,hl⟩,rr,mm⟩:=Jh h
              obtain ⟨A6,kA6,rfl,hts⟩:=Yx hl
              have G224:=Hd (G211.out.sub (HFF.out _ _ _ hv).1)
              have L225:=Hd (((HFF.out _ _ _ hv).1).trans L212.out)
              have K226:=Hd (K217.out.next rr mm)
              have O227:=Hd (O218.out.next mm K217.out.rb)
              have O228:=Hd (O219.out.next mm K217.out.rb)
              have O229:=Hd (Ov.of hts K217.out.blt)
              have E230:=Hd hv
              clear rr mm hv hl hts h
              obtain ⟨y0,y1,y2,y3,y4,y5,y6,yz⟩:=svc K226.out.loc
              have yf0:=yz 0
              have yf1:=yz 1
              have yf2:=yz 2
              have yf3:=yz 3
              have yf4:=yz 4
              have yf5:=yz 5
              have yf6:=yz 6
              clear yz
              go_upto_region 10 with fail
              clear y0 y1 y2 y3 y4 y5 y6 yf0 yf1 yf2 yf3 yf4 yf5 yf6
              have K231:Hid (S1 w r (w223.setCell ⟨w10.heap.size,6,none⟩ (.slice A6 (Z7 sq).len kA6)) _ (w10.heap.size) (.cells #[.int .i64 0,.string AL,.string NM,.slice A3 (Jf g).len kA3,.slice A4 (Z5 Xc ds).len kA4,.string ⟨#[]⟩,.slice A6 (Z7 sq).len kA6] 72 (0,0)) _ d):=Hd (K226.out.put 6 (.slice A6 (Z7 sq).len kA6))
              have O232:Hid (Ov (w10.heap.size) (w223.setCell ⟨w10.heap.size,6,none⟩ (.slice A6 (Z7 sq).len kA6)) _ _):=Hd (O227.out.put (i:=6) (v:=.slice A6 (Z7 sq).len kA6) (Nat.le_refl _))
              have O233:Hid (Ov (w10.heap.size) (w223.setCell ⟨w10.heap.size,6,none⟩ (.slice A6 (Z7 sq).len kA6)) _ _):=Hd (O228.out.put (i:=6) (v:=.slice A6 (Z7 sq).len kA6) (Nat.le_refl _))
              have O234:Hid (Ov (w10.heap.size) (w223.setCell ⟨w10.heap.size,6,none⟩ (.slice A6 (Z7 sq).len kA6)) _ _):=Hd (O229.out.put (i:=6) (v:=.slice A6 (Z7 sq).len kA6) (Nat.le_refl _))
              generalize (w223.setCell ⟨w10.heap.size,6,none⟩ (.slice A6 (Z7 sq).len kA6))=wz235 at K231 O232 O233 O234 ⊢
              obtain ⟨y0,y1,y2,y3,y4,y5,y6,yz⟩:=svc K231.out.loc
              have yf0:=yz 0
              have yf1:=yz 1
              have yf2:=yz 2
              have yf3:=yz 3
              have yf4:=yz 4
              have yf5:=yz 5
              have yf6:=yz 6
              clear yz
              obtain ⟨x0,x1,x2,x3,x4,x5,x6,xz⟩:=svc K231.out.res
              have xf0:=xz 0
              have xf1:=xz 1
              have xf2:=xz 2
              have xf3:=xz 3
              have xf4:=xz 4
              have xf5:=xz 5
              have xf6:=xz 6
              clear xz
              go_wp2_with fail
              clear y0 y1 y2 y3 y4 y5 y6 yf0 yf1 yf2 yf3 yf4 yf5 yf6 x0 x1 x2 x3 x4 x5 x6 xf0 xf1 xf2 xf3 xf4 xf5 xf6
              obtain ⟨f1,f2,f3⟩:=S1.fin (ys:=[.int .i64 0,.string ⟨#[]⟩,.string ⟨#[]⟩,.slice none 0 0,.slice none 0 0,.string ⟨#[]⟩,.slice none 0 0]) K231.out [.int .i64 0,.string AL,.string NM,.slice A3 (Jf g).len kA3,.slice A4 (Z5 Xc ds).len kA4,.string ⟨#[]⟩,.slice A6 (Z7 sq).len kA6] rfl
              have Fg:=O232.out.fin (w:=w) (Nat.le_of_lt K231.out.bl) [.int .i64 0,.string AL,.string NM,.slice A3 (Jf g).len kA3,.slice A4 (Z5 Xc ds).len kA4,.string ⟨#[]⟩,.slice A6 (Z7 sq).len kA6]
              have Fd:=O233.out.fin (w:=w) (Nat.le_of_lt K231.out.bl) [.int .i64 0,.string AL,.string NM,.slice A3 (Jf g).len kA3,.slice A4 (Z5 Xc ds).len kA4,.string ⟨#[]⟩,.slice A6 (Z7 sq).len kA6]
              have Fs:=O234.out.fin (w:=w) (Nat.le_of_lt K231.out.bl) [.int .i64 0,.string AL,.string NM,.slice A3 (Jf g).len kA3,.slice A4 (Z5 Xc ds).len kA4,.string ⟨#[]⟩,.slice A6 (Z7 sq).len kA6]
              have FP:=HQ.out _ _ (X6 (a:=.mk 0 AL NM g ds eB sq) (by simp only [Ua,HE.out,E206.out,E216.out,E222.out,E230.out,if_true]) ⟨[.int .i64 0,.string AL,.string NM,.slice A3 (Jf g).len kA3,.slice A4 (Z5 Xc ds).len kA4,.string ⟨#[]⟩,.slice A6 (Z7 sq).len kA6],rfl,(by rw [Gk];exact TS.int (TS.str NA.out (TS.str NB.out (TS.row Fg (TS.row Fd (TS.str (Nat.zero_le _) (TS.row Fs (TS.nil _ _))))))))⟩ f2 f3)
              exact Y8 rfl rfl rfl f1 Tryz.underlying72 ⟨_,rfl⟩ (by kernel_rfl) FP
          | false =>
            rw [hb] at h
            obtain ⟨rfl,rfl⟩:=h
            have E236:=Hd hb
            clear hb
            obtain ⟨y0,y1,y2,y3,y4,y5,y6,yz⟩:=svc K217.out.loc
            have yf0:=yz 0
            have yf1:=yz 1
            have yf2:=yz 2
            have yf3:=yz 3
            have yf4:=yz 4
            have yf5:=yz 5
            have yf6:=yz 6
            clear yz
            obtain ⟨x0,x1,x2,x3,x4,x5,x6,xz⟩:=svc K217.out.res
            have xf0:=xz 0
            have xf1:=xz 1
            have xf2:=xz 2
            have xf3:=xz 3
            have xf4:=xz 4
            have xf5:=xz 5
            have xf6:=xz 6
            clear xz
            go_wp2_with fail
            clear y0 y1 y2 y3 y4 y5 y6 yf0 yf1 yf2 yf3 yf4 yf5 yf6 x0 x1 x2 x3 x4 x5 x6 xf0 xf1 xf2 xf3 xf4 xf5 xf6
            obtain ⟨f1,f2,f3⟩:=S1.fin (ys:=[.int .i64 0,.string ⟨#[]⟩,.string ⟨#[]⟩,.slice none 0 0,.slice none 0 0,.string ⟨#[]⟩,.slice none 0 0]) K217.out [.int .i64 0,.string AL,.string NM,.slice A3 (Jf g).len kA3,.slice A4 (Z5 Xc ds).len kA4,.string ⟨#[]⟩,.slice none 0 0] rfl
            have Fg:=O218.out.fin (w:=w) (Nat.le_of_lt K217.out.bl) [.int .i64 0,.string AL,.string NM,.slice A3 (Jf g).len kA3,.slice A4 (Z5 Xc ds).len kA4,.string ⟨#[]⟩,.slice none 0 0]
            have Fd:=O219.out.fin (w:=w) (Nat.le_of_lt K217.out.bl) [.int .i64 0,.string AL,.string NM,.slice A3 (Jf g).len kA3,.slice A4 (Z5 Xc ds).len kA4,.string ⟨#[]⟩,.slice none 0 0]
            have FP:=HQ.out _ _ (X6 (a:=.mk 0 AL NM g ds eB .nil) (by simp only [Ua,HE.out,E206.out,E216.out,E236.out,if_false,Bool.false_eq_true]) ⟨[.int .i64 0,.string AL,.string NM,.slice A3 (Jf g).len kA3,.slice A4 (Z5 Xc ds).len kA4,.string ⟨#[]⟩,.slice none 0 0],rfl,(by rw [Gk];exact TS.int (TS.str NA.out (TS.str NB.out (TS.row Fg (TS.row Fd (TS.str (Nat.zero_le _) (TS.row (show TP _ _ (.row (Z7 .nil)) _ by rw [Z7];exact TP.none _ _) (TS.nil _ _))))))))⟩ f2 f3)
            exact Y8 rfl rfl rfl f1 Tryz.underlying72 ⟨_,rfl⟩ (by kernel_rfl) FP
end Go.Proofs.YtpkmbhnikilihaaGreatDoor
