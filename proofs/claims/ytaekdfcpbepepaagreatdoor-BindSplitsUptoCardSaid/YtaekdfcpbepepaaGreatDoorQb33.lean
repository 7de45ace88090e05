/- bind.source, bind.hasKeys, bind.changes, bind.ofRows. (gen_of.py wrote it.) -/
import Derived.Test.YtaekdfcpbepepaaGreatDoorQby
import Derived.Test.YtaekdfcpbepepaaGreatDoorQbz
import Derived.Test.YtaekdfcpbepepaaGreatDoorQb31
import Derived.Test.YtaekdfcpbepepaaGreatDoorQb32
set_option maxRecDepth 100000
set_option maxHeartbeats 8000000
namespace Go.Proofs.YtaekdfcpbepepaaGreatDoor
open List renaming getElem_toArray → zgA, getElem_cons_zero → zgB, getElem_cons_succ → zgC
open Go.RowKit
theorem source_any (ds:List DirT) (nm:ByteArray) (A:Option Addr) (c:Nat) (w:World) (B:Nat) (hB:B≤w.heap.size) (hl:ds.length≤9223372036854775807) (hR:RowT w (fun b=>b < B) (rowOf encD ds) A) :
   Calls Tryz.prog 50 #[.slice A ds.length c,.string nm] w (BindO (sourceT ds nm) w):=by
 have B1:=Hd (dbelow_new w (.cells #[.int .i64 0,.string ⟨#[]⟩,.string ⟨#[]⟩,.string ⟨#[]⟩,.string ⟨#[]⟩] 51))
 have Y1:=Hd (heap_alloc_new w (.cells #[.int .i64 0,.string ⟨#[]⟩,.string ⟨#[]⟩,.string ⟨#[]⟩,.string ⟨#[]⟩] 51))
 match ds,hl,hR with
 | [],_,_ =>
   go_enter Tryz.func50,Tryz.ntmps50
   go_upto_region 1 with fail
   generalize w.alloc (.cells #[.int .i64 0,.string ⟨#[]⟩,.string ⟨#[]⟩,.string ⟨#[]⟩,.string ⟨#[]⟩] 51)=w1 at B1 Y1 ⊢
   obtain ⟨u0,u1,u2,u3,u4,f4⟩:=gvc Y1.out
   have f0:=f4 0
   have f1:=f4 1
   have f2:=f4 2
   have f3:=f4 3
   have f5:=f4 4
   clear f4
   go_wp2_with fail
   refine ret_bind rfl rfl rfl (five_put Y1.out) ?_
   exact ⟨rfl,five_down B1.out (Nat.le_refl _)⟩
 | [d],hl,hR =>
   obtain ⟨b,o,cs,rfl,hb,hc,hT⟩:=rowOf_at 2 len_dir hR (q:=0) rfl
   obtain ⟨Am,cm,rfl,_,hm,hM⟩:=dir_cells hT
   have g0:(w.alloc (.cells #[.int .i64 0,.string ⟨#[]⟩,.string ⟨#[]⟩,.string ⟨#[]⟩,.string ⟨#[]⟩] 51)).cell? ⟨b,o,none⟩=some (.string d.1):=(B1.out.cell (p:=⟨b,o,none⟩) (Nat.lt_of_lt_of_le hb hB)).trans (hc 0 _ rfl)
   have g1:(w.alloc (.cells #[.int .i64 0,.string ⟨#[]⟩,.string ⟨#[]⟩,.string ⟨#[]⟩,.string ⟨#[]⟩] 51)).cell? ⟨b,o+1,none⟩=some (.slice Am d.2.len cm):=(B1.out.cell (p:=⟨b,o+1,none⟩) (Nat.lt_of_lt_of_le hb hB)).trans (hc 1 _ rfl)
   have TD:=Hd (told_any d Am cm (w.alloc (.cells #[.int .i64 0,.string ⟨#[]⟩,.string ⟨#[]⟩,.string ⟨#[]⟩,.string ⟨#[]⟩] 51)) hm (RowT.keep (P':=fun b=>b < (w.alloc (.cells #[.int .i64 0,.string ⟨#[]⟩,.string ⟨#[]⟩,.string ⟨#[]⟩,.string ⟨#[]⟩] 51)).heap.size) (fun x hx=>⟨Nat.lt_of_lt_of_le (Nat.lt_of_lt_of_le hx hB) B1.out.size,B1.out.block x (Nat.lt_of_lt_of_le hx hB)⟩) _ _ hM))
   clear hR hc hT hM
   go_enter Tryz.func50,Tryz.ntmps50
   go_upto_region 1 with fail
   generalize w.alloc (.cells #[.int .i64 0,.string ⟨#[]⟩,.string ⟨#[]⟩,.string ⟨#[]⟩,.string ⟨#[]⟩] 51)=w1 at B1 Y1 TD g0 g1 ⊢
   go_wp2_with fail
   refine TD.out.mono ?_
   rintro e w3 ⟨rfl,hb3⟩
   have B3:=Hd (B1.out.trans (hb3.mono B1.out.size))
   have Y3:=Hd ((hb3.block _ (Array.getElem?_eq_some_iff.1 Y1.out).1).trans Y1.out)
   obtain ⟨u0,u1,u2,u3,u4,f4⟩:=gvc Y3.out
   have f0:=f4 0
   have f1:=f4 1
   have f2:=f4 2
   have f3:=f4 3
   have f5:=f4 4
   clear f4 hb3 g0 g1 TD
   unfold bindV
   go_wp2_with fail
   refine ret_bind rfl rfl rfl (five_put Y3.out) ?_
   exact ⟨rfl,five_down B3.out (Nat.le_refl _)⟩
 | d :: d2 :: t,hl,_ =>
   have e0:(((d :: d2 :: t).length:Int) == 0)=false:=by simp;omega
   have e1:(((d :: d2 :: t).length:Int) == 1)=false:=by simp;omega
   have HX:Hid (sourceT (d :: d2 :: t) nm=(noneB,false)):=Hd rfl
   generalize d :: d2 :: t=l at e0 e1 HX ⊢
   go_enter Tryz.func50,Tryz.ntmps50
   go_upto_region 1 with fail
   generalize w.alloc (.cells #[.int .i64 0,.string ⟨#[]⟩,.string ⟨#[]⟩,.string ⟨#[]⟩,.string ⟨#[]⟩] 51)=w1 at B1 Y1 ⊢
   obtain ⟨u0,u1,u2,u3,u4,f4⟩:=gvc Y1.out
   have f0:=f4 0
   have f1:=f4 1
   have f2:=f4 2
   have f3:=f4 3
   have f5:=f4 4
   clear f4
   go_wp2_with fail
   refine ret_bind rfl rfl rfl (five_put Y1.out) ?_
   rw [HX.out]
   exact ⟨rfl,five_down B1.out (Nat.le_refl _)⟩
theorem keys_drop {tl:Int} {n:ByteArray} {l:List VarT} {q:Nat} {p:VarT} (h:l[q]? = some p):keysP tl n (l.drop q)=if (p.name.toList == n.toList)=true then (((p.tn.toList == [73,68]) || (p.tn.toList == [83,116,114,105,110,103])) && (p.tl == tl)) else keysP tl n (l.drop (q+1)):=by
 have hq:q < l.length:=(List.getElem?_eq_some_iff.1 h).1
 rw [List.drop_eq_getElem_cons hq,keysP]
 rw [List.getElem?_eq_getElem hq] at h
 injection h with h
 rw [h]
theorem keys_any (f:FieldT) (n:ByteArray) (d0 d1 d2 d3 d4 d5:Value) (w:World) (B:Nat) (hB:B≤w.heap.size) (hF:TS w (fun b=>b < B) (encField f) [d0,d1,d2,d3,d4,d5]) :
  Calls Tryz.prog 93 #[.agg #[d0,d1,d2,d3,d4,d5],.string n] w fun e w'=>e=.returned (.bool (keysP f.tl n f.params))∧Below w.heap.size w w':=by
 obtain ⟨Ap,kp,Ad,kd,e,_,⟨hl,hR⟩,_⟩:=fld_cells hF
 simp only [List.cons.injEq,and_true] at e
 obtain ⟨rfl,rfl,rfl,rfl,rfl,rfl⟩:=e
 have HB0:=Hd hB
 have HR:=Hd hR
 clear hB hR hF
 have B1:=Hd (dbelow_new w (.cells #[.string f.name,.slice Ap f.params.length kp,.string f.tn,.int .i64 f.tl,.int .i64 f.tm,.slice Ad f.dirs.length kd] 46))
 have Y1:=Hd (heap_alloc_new w (.cells #[.string f.name,.slice Ap f.params.length kp,.string f.tn,.int .i64 f.tl,.int .i64 f.tm,.slice Ad f.dirs.length kd] 46))
 go_enter Tryz.func93,Tryz.ntmps93
 go_upto_region 1 with fail
 generalize w.alloc (.cells #[.string f.name,.slice Ap f.params.length kp,.string f.tn,.int .i64 f.tl,.int .i64 f.tm,.slice Ad f.dirs.length kd] 46)=w1 at B1 Y1 ⊢
 obtain ⟨⟨v0,v1,v2,v3,v4,v5⟩,_⟩:=six_cells Y1.out
 go_wp2_with fail
 go_loopg [10] f.params.length (fun g i wx=>∃ q:Nat,q+g=f.params.length∧i=.int .i64 q∧Aside (keysP f.tl n (f.params.drop q)=keysP f.tl n f.params∧wx.heap[w.heap.size]? = some (.cells #[.string f.name,.slice Ap f.params.length kp,.string f.tn,.int .i64 f.tl,.int .i64 f.tm,.slice Ad f.dirs.length kd] 46 (0,0))∧Below w.heap.size w wx))
 case atStart=>exact ⟨0,by omega,rfl,Blk.Aside.intro ⟨rfl,Y1.out,B1.out⟩⟩
 case round =>
  obtain ⟨q,hq,rfl,HX⟩:=hrel
  have HE:=Hd HX.out.1
  have YX:=Hd HX.out.2.1
  have BX:=Hd HX.out.2.2
  clear HX v0 v1 v2 v3 v4 v5
  cases gk with
  | zero =>
    obtain rfl:q=f.params.length:=by omega
    have HE2:Hid (keysP f.tl n f.params=false):=Hd (by rw [← HE.out,List.drop_length];rfl)
    go_wp2_with fail
    go_ret
    exact ⟨by rw [HE2.out];rfl,BX.out⟩
  | succ g =>
    have hqn:q < f.params.length:=by omega
    have hqn':(q:Int) < (f.params.length:Int):=by omega
    obtain ⟨p,hx⟩:∃ x,f.params[q]? = some x:=⟨_,List.getElem?_eq_getElem hqn⟩
    obtain ⟨b,o,cs,rfl,hb,hc,hT⟩:=rowOf_at 10 len_par HR.out hx
    have HBL:=Hd (Nat.lt_of_lt_of_le hb HB0.out)
    obtain ⟨A3,k3,A4,k4,rfl,_⟩:=var_cells hT
    have g0:=(BX.out.cell (p:=⟨b,o+q*10,none⟩) HBL.out).trans (hc 0 _ rfl)
    have g1:=(BX.out.cell (p:=⟨b,o+q*10+1,none⟩) HBL.out).trans (hc 1 _ rfl)
    have g2:=(BX.out.cell (p:=⟨b,o+q*10+2,none⟩) HBL.out).trans (hc 2 _ rfl)
    have g3:=(BX.out.cell (p:=⟨b,o+q*10+3,none⟩) HBL.out).trans (hc 3 _ rfl)
    have g4:=(BX.out.cell (p:=⟨b,o+q*10+4,none⟩) HBL.out).trans (hc 4 _ rfl)
    have g5:=(BX.out.cell (p:=⟨b,o+q*10+5,none⟩) HBL.out).trans (hc 5 _ rfl)
    have g6:=(BX.out.cell (p:=⟨b,o+q*10+6,none⟩) HBL.out).trans (hc 6 _ rfl)
    have g7:=(BX.out.cell (p:=⟨b,o+q*10+7,none⟩) HBL.out).trans (hc 7 _ rfl)
    have g8:=(BX.out.cell (p:=⟨b,o+q*10+8,none⟩) HBL.out).trans (hc 8 _ rfl)
    have g9:=(BX.out.cell (p:=⟨b,o+q*10+9,none⟩) HBL.out).trans (hc 9 _ rfl)
    have HK:=Hd (keys_drop (tl:=f.tl) (n:=n) hx)
    clear hx hb hc hT
    go_upto_region 4 with fail
    clear g0 g1 g2 g3 g4 g5 g6 g7 g8 g9
    have bn:=dbelow_new wr (.cells #[.string p.name,.string p.tn,.int .i64 p.tl,.int .i64 p.tm,.bool p.has,.int .i64 p.v.kd,.int .i64 p.v.nn,.string p.v.ss,.slice A3 p.v.ls.len k3,.slice A4 p.v.ms.len k4] 60)
    have B2:=Hd (BX.out.trans (bn.mono BX.out.size))
    have YF:=Hd ((bn.block _ (Array.getElem?_eq_some_iff.1 YX.out).1).trans YX.out)
    have Y2:=Hd (heap_alloc_new wr (.cells #[.string p.name,.string p.tn,.int .i64 p.tl,.int .i64 p.tm,.bool p.has,.int .i64 p.v.kd,.int .i64 p.v.nn,.string p.v.ss,.slice A3 p.v.ls.len k3,.slice A4 p.v.ms.len k4] 60))
    generalize wr.alloc (.cells #[.string p.name,.string p.tn,.int .i64 p.tl,.int .i64 p.tm,.bool p.has,.int .i64 p.v.kd,.int .i64 p.v.nn,.string p.v.ss,.slice A3 p.v.ls.len k3,.slice A4 p.v.ms.len k4] 60)=w2 at B2 YF Y2 ⊢
    generalize wr.heap.size=gb at Y2 ⊢
    clear bn YX BX
    obtain ⟨⟨y0,y1,y2,y3,y4,y5,y6,y7,y8,y9⟩,_⟩:=ten_cells Y2.out
    obtain ⟨⟨v0,v1,v2,v3,v4,v5⟩,_⟩:=six_cells YF.out
    cases e1:(p.name.toList == n.toList) with
    | false =>
      have HN:Hid (keysP f.tl n (f.params.drop (q+1))=keysP f.tl n f.params):=Hd (by rw [← HE.out,HK.out,e1];rfl)
      go_wp2_with fail
      go_roundg g
      case measure=>omega
      case rel=>exact ⟨q+1,by omega,by go_num,Blk.Aside.intro ⟨HN.out,YF.out,B2.out⟩⟩
    | true =>
      have HN:Hid (keysP f.tl n f.params=(((p.tn.toList == [73,68]) || (p.tn.toList == [83,116,114,105,110,103])) && (p.tl == f.tl))):=Hd (by rw [← HE.out,HK.out,e1];rfl)
      cases e2:(p.tn.toList == [73,68]) with
      | true =>
        go_wp2_with fail
        go_ret
        exact ⟨by rw [HN.out,e2];rfl,B2.out⟩
      | false =>
        cases e3:(p.tn.toList == [83,116,114,105,110,103]) with
        | true =>
          go_wp2_with fail
          go_ret
          exact ⟨by rw [HN.out,e2,e3];rfl,B2.out⟩
        | false =>
          go_wp2_with fail
          go_ret
          exact ⟨by rw [HN.out,e2,e3];rfl,B2.out⟩
theorem changes_any (S:SchT) (typ:ByteArray) (A:Option Addr) (k:Nat) (w:World) :
   Calls Tryz.prog 52 #[.agg #[.slice A S.defs.length k,.string S.query,.string S.mutation],.string typ] w fun e w'=>e=.returned (.bool (changesB S typ))∧Below w.heap.size w w':=by
 have B1:=Hd (dbelow_new w (.cells #[.slice A S.defs.length k,.string S.query,.string S.mutation] 24))
 have Y1:=Hd (heap_alloc_new w (.cells #[.slice A S.defs.length k,.string S.query,.string S.mutation] 24))
 have HQ:Hid (changesB S typ=(!(S.mutation.toList == []) && (typ.toList == S.mutation.toList))):=Hd rfl
 go_enter Tryz.func52,Tryz.ntmps52
 go_upto_region 1 with fail
 generalize w.alloc (.cells #[.slice A S.defs.length k,.string S.query,.string S.mutation] 24)=w1 at B1 Y1 ⊢
 obtain ⟨z0,z1,z2⟩:=three_cells Y1.out
 cases e1:(S.mutation.toList == []) with
 | true =>
   go_wp2_with fail
   go_ret
   exact ⟨by rw [HQ.out,e1];rfl,B1.out⟩
 | false =>
   go_wp2_with fail
   go_ret
   exact ⟨by rw [HQ.out,e1];rfl,B1.out⟩
abbrev SBx (g:Nat) (c0 c1 c2:Value) (w:World):Prop:=w.cell? ⟨g,0,none⟩=some c0∧w.cell? ⟨g,1,none⟩=some c1∧w.cell? ⟨g,2,none⟩=some c2
def SOf:Nat:=0
theorem rows_any (S:SchT) (n:ByteArray) (c0 c1 c2:Value) (w:World) (B:Nat) (hB:B≤w.heap.size) (hn:n.size≤9223372036854775807) (hz:SlimS S) (hS:TS w (fun b=>b < B) (encSch S) [c0,c1,c2]) :
   Calls Tryz.prog 92 #[.agg #[c0,c1,c2],.string n] w fun e w'=>e=.returned (.bool (ofRowsB S n))∧Below w.heap.size w w':=by
 have C1:=Hd (fun (wx:World) (h:Below w.heap.size w wx)=>composite_any S n c0 c1 c2 wx B (Nat.le_trans hB h.size) hn (TS.low (h.mono hB) hS))
 have P1:=Hd (fun (wx:World) (h:Below w.heap.size w wx)=>poss_any S n c0 c1 c2 wx B (Nat.le_trans hB h.size) hn hz (TS.low (h.mono hB) hS))
 have hl1:=poss_len S n hz
 obtain ⟨A,k,e,_⟩:=sch_cells hS
 injection e with e0 e
 injection e with e1 e
 injection e with e2 e
 subst e0 e1 e2
 clear hB e hn hS hz
 have X0:=Hd (show BX w (.slice A S.defs.length k) (.string S.query) (.string S.mutation) _ from ⟨dbelow_new w _,heap_alloc_new w (.cells #[.slice A S.defs.length k,.string S.query,.string S.mutation] 24)⟩)
 have HQ:Hid (ofRowsB S n=(compD S.defs n && ((S.mutation.toList == []) || !hasN (possL S n) S.mutation))):=Hd rfl
 generalize ofRowsB S n=Q at HQ ⊢
 generalize compD S.defs n=x1 at C1 HQ
 generalize possL S n=ys at P1 HQ hl1
 go_enter Tryz.func92,Tryz.ntmps92
 go_upto_region 1 with fail
 generalize w.alloc (.cells #[.slice A S.defs.length k,.string S.query,.string S.mutation] 24)=w1 at X0 ⊢
 have XD:=Hd (X0.out.next (Below.drew (Below.refl _ _)))
 generalize hwd:w1.drew=wd at XD
 cases x1 with
 | false =>
   refine wp_region_held_drew (S:=SBx w.heap.size (.slice A S.defs.length k) (.string S.query) (.string S.mutation)) (by kernel_rfl) (by rw [hwd];exact three_cells XD.out.2) (fun hHeld=>?_)
   rw [hwd] at hHeld ⊢
   clear hwd
   refine zt 0 ?_;try simp only [Act.put,zgA,zgB,stT,stZ,stS]
   refine zt 1 ?_;try simp only [Act.put,zgA,zgB,zgC,stT,stZ,stS]
   refine wpAnyH_ready (rs:=[2]) (by kernel_rfl) (by simp) ?_
   refine AllReadyH.cons (o:=_) rfl (fun K hK=>?_) AllReadyH.nil
   go_simp
   refine (C1.out _ XD.out.1).mono ?_
   rintro e w3 ⟨rfl,hb⟩
   have X3:=Hd (XD.out.next hb)
   clear hb XD C1
   go_wp2_with fail
   refine hK.out _ _ (three_cells X3.out.2) (fun hHeld=>?_)
   clear hK K
   try simp only [Act.put,zgA,zgB,zgC,stT,stZ,stS]
   refine zt 3 ?_;try simp only [Act.put,zgA,zgB,zgC,stT,stZ,stS]
   refine zu 4 ?_;try simp only [Act.put,zgA,zgB,zgC,stT,stZ,stS]
   refine zu 5 ?_;try simp only [Act.put,zgA,zgB,zgC,stT,stZ,stS]
   refine zu 6 ?_;try simp only [Act.put,zgA,zgB,zgC,stT,stZ,stS]
   refine zu 7 ?_;try simp only [Act.put,zgA,zgB,zgC,stT,stZ,stS]
   refine zu 8 ?_;try simp only [Act.put,zgA,zgB,zgC,stT,stZ,stS]
   refine zu 9 ?_;try simp only [Act.put,zgA,zgB,zgC,stT,stZ,stS]
   refine zu 10 ?_;try simp only [Act.put,zgA,zgB,zgC,stT,stZ,stS]
   refine zu 11 ?_;try simp only [Act.put,zgA,zgB,zgC,stT,stZ,stS]
   refine zu 12 ?_;try simp only [Act.put,zgA,zgB,zgC,stT,stZ,stS]
   refine zu 13 ?_;try simp only [Act.put,zgA,zgB,zgC,stT,stZ,stS]
   refine zu 14 ?_;try simp only [Act.put,zgA,zgB,zgC,stT,stZ,stS]
   refine zu 15 ?_;try simp only [Act.put,zgA,zgB,zgC,stT,stZ,stS]
   refine zt 16 ?_;try simp only [Act.put,zgA,zgB,zgC,stT,stZ,stS]
   refine zt 17 ?_;try simp only [Act.put,zgA,zgB,zgC,stT,stZ,stS]
   refine wpAnyH_done (by kernel_rfl) ?_ _
   go_wp2_with fail
   go_ret
   exact ⟨by rw [HQ.out];rfl,X3.out.1⟩
 | true =>
   cases em:(S.mutation.toList == []) with
   | true =>
     rw [em] at HQ
     refine wp_region_held_drew (S:=SBx w.heap.size (.slice A S.defs.length k) (.string S.query) (.string S.mutation)) (by kernel_rfl) (by rw [hwd];exact three_cells XD.out.2) (fun hHeld=>?_)
     rw [hwd] at hHeld ⊢
     clear hwd
     refine zt 0 ?_;try simp only [Act.put,zgA,zgB,stT,stZ,stS]
     refine zt 1 ?_;try simp only [Act.put,zgA,zgB,zgC,stT,stZ,stS]
     refine wpAnyH_ready (rs:=[2]) (by kernel_rfl) (by simp) ?_
     refine AllReadyH.cons (o:=_) rfl (fun K hK=>?_) AllReadyH.nil
     go_simp
     refine (C1.out _ XD.out.1).mono ?_
     rintro e w3 ⟨rfl,hb⟩
     have X3:=Hd (XD.out.next hb)
     clear hb XD C1
     go_wp2_with fail
     refine hK.out _ _ (three_cells X3.out.2) (fun hHeld=>?_)
     clear hK K
     try simp only [Act.put,zgA,zgB,zgC,stT,stZ,stS]
     refine zt 3 ?_;try simp only [Act.put,zgA,zgB,zgC,stT,stZ,stS]
     refine zt 4 ?_;try simp only [Act.put,zgA,zgB,zgC,stT,stZ,stS]
     refine zt 5 ?_;try simp only [Act.put,zgA,zgB,zgC,stT,stZ,stS]
     refine zt 6 ?_;try simp only [Act.put,zgA,zgB,zgC,stT,stZ,stS]
     refine zt 7 ?_;try simp only [Act.put,zgA,zgB,zgC,stT,stZ,stS]
     refine zu 8 ?_;try simp only [Act.put,zgA,zgB,zgC,stT,stZ,stS]
     refine zu 9 ?_;try simp only [Act.put,zgA,zgB,zgC,stT,stZ,stS]
     refine zu 10 ?_;try simp only [Act.put,zgA,zgB,zgC,stT,stZ,stS]
     refine zu 11 ?_;try simp only [Act.put,zgA,zgB,zgC,stT,stZ,stS]
     refine zu 12 ?_;try simp only [Act.put,zgA,zgB,zgC,stT,stZ,stS]
     refine zu 13 ?_;try simp only [Act.put,zgA,zgB,zgC,stT,stZ,stS]
     refine zu 14 ?_;try simp only [Act.put,zgA,zgB,zgC,stT,stZ,stS]
     refine zt 15 ?_;try simp only [Act.put,zgA,zgB,zgC,stT,stZ,stS]
     refine zt 16 ?_;try simp only [Act.put,zgA,zgB,zgC,stT,stZ,stS]
     refine zt 17 ?_;try simp only [Act.put,zgA,zgB,zgC,stT,stZ,stS]
     refine wpAnyH_done (by kernel_rfl) ?_ _
     go_wp2_with fail
     go_ret
     exact ⟨by rw [HQ.out];rfl,X3.out.1⟩
   | false =>
     rw [em] at HQ
     refine wp_region_held_drew (S:=SBx w.heap.size (.slice A S.defs.length k) (.string S.query) (.string S.mutation)) (by kernel_rfl) (by rw [hwd];exact three_cells XD.out.2) (fun hHeld=>?_)
     rw [hwd] at hHeld ⊢
     clear hwd
     refine zt 0 ?_;try simp only [Act.put,zgA,zgB,stT,stZ,stS]
     refine zt 1 ?_;try simp only [Act.put,zgA,zgB,zgC,stT,stZ,stS]
     refine wpAnyH_ready (rs:=[2]) (by kernel_rfl) (by simp) ?_
     refine AllReadyH.cons (o:=_) rfl (fun K hK=>?_) AllReadyH.nil
     go_simp
     refine (C1.out _ XD.out.1).mono ?_
     rintro e w3 ⟨rfl,hb⟩
     have X3:=Hd (XD.out.next hb)
     clear hb XD C1
     go_wp2_with fail
     refine hK.out _ _ (three_cells X3.out.2) (fun hHeld=>?_)
     clear hK K
     try simp only [Act.put,zgA,zgB,zgC,stT,stZ,stS]
     refine zt 3 ?_;try simp only [Act.put,zgA,zgB,zgC,stT,stZ,stS]
     refine zt 4 ?_;try simp only [Act.put,zgA,zgB,zgC,stT,stZ,stS]
     refine zt 5 ?_;try simp only [Act.put,zgA,zgB,zgC,stT,stZ,stS]
     refine zt 6 ?_;try simp only [Act.put,zgA,zgB,zgC,stT,stZ,stS]
     refine zt 7 ?_;try simp only [Act.put,zgA,zgB,zgC,stT,stZ,stS]
     refine zt 8 ?_;try simp only [Act.put,zgA,zgB,zgC,stT,stZ,stS]
     refine zt 9 ?_;try simp only [Act.put,zgA,zgB,zgC,stT,stZ,stS]
     refine zt 11 ?_;try simp only [Act.put,zgA,zgB,zgC,stT,stZ,stS]
     refine zt 12 ?_;try simp only [Act.put,zgA,zgB,zgC,stT,stZ,stS]
     refine wpAnyH_ready (rs:=[10]) (by kernel_rfl) (by simp) ?_
     refine AllReadyH.cons (o:=_) rfl (fun K hK=>?_) AllReadyH.nil
     go_simp
     refine (P1.out _ X3.out.1).mono ?_
     rintro e w4 ⟨A2,k2,rfl,hs2,hb⟩
     have X4:=Hd (X3.out.next hb)
     have CS:=Hd (contains_s A2 ys.length k2 ys S.mutation w4 hl1 hs2)
     clear hb X3 P1 hs2
     go_wp2_with fail
     refine hK.out _ _ (three_cells X4.out.2) (fun hHeld=>?_)
     clear hK K
     try simp only [Act.put,zgA,zgB,zgC,stT,stZ,stS]
     refine wpAnyH_ready (rs:=[13]) (by kernel_rfl) (by simp) ?_
     refine AllReadyH.cons (o:=_) rfl (fun K hK=>?_) AllReadyH.nil
     go_simp
     refine CS.out.mono ?_
     rintro e w5 ⟨rfl,hb⟩
     have X5:=Hd (X4.out.next hb)
     clear hb X4 CS
     go_wp2_with fail
     refine hK.out _ _ (three_cells X5.out.2) (fun hHeld=>?_)
     clear hK K
     try simp only [Act.put,zgA,zgB,zgC,stT,stZ,stS]
     refine zt 14 ?_;try simp only [Act.put,zgA,zgB,zgC,stT,stZ,stS]
     refine zt 15 ?_;try simp only [Act.put,zgA,zgB,zgC,stT,stZ,stS]
     refine zt 16 ?_;try simp only [Act.put,zgA,zgB,zgC,stT,stZ,stS]
     refine zt 17 ?_;try simp only [Act.put,zgA,zgB,zgC,stT,stZ,stS]
     refine wpAnyH_done (by kernel_rfl) ?_ _
     go_wp2_with fail
     go_ret
     exact ⟨by rw [HQ.out];rfl,X5.out.1⟩
end Go.Proofs.YtaekdfcpbepepaaGreatDoor
