/- The walk of the law SchemaTurned. (gen_turned.py wrote it.) -/
import Derived.Test.YtaekdfcpbepepaaGreatDoorRtScDefs
import Derived.Test.YtaekdfcpbepepaaGreatDoorQt45
set_option maxRecDepth 100000
set_option maxHeartbeats 8000000
namespace Go.Proofs.YtaekdfcpbepepaaGreatDoor.LSTurn
open Go.RowKit
theorem walk (w:World) (S:SchT) (c0 c1 c2:Value) (by_:Int) (hw:Laid5 w) (hz:SlimS S) (hlg:ligN S≤1048576) (hcap:∀ A n k,c0=.slice A n k→n≤k) (hS:TS w (fun b=>b < w.heap.size) (encSch S) [c0,c1,c2]) :
   Calls Tryz.prog 4 #[.agg #[c0,c1,c2],.int .i64 by_] w fun e w'=>e=.returned (.bool true)∧Below w.heap.size w w':=by
 obtain ⟨hqz,hmz⟩:=sch_sizes hS
 obtain ⟨A,k,e,hl,hR⟩:=sch_cells hS
 injection e with e0 e
 injection e with e1 e
 injection e with e2 e
 subst e0 e1 e2
 have hk:=hcap _ _ _ rfl
 clear hcap
 have TSX:=fun (wx:World) (h:Below w.heap.size w wx)=>Hd (show TS wx (fun b=>b < w.heap.size) (encSch S) [.slice A S.defs.length k,.string S.query,.string S.mutation] from TS.low h hS)
 have LG:=Hd (fun (wx:World) (h:Below w.heap.size w wx)=>lightN_any S _ _ _ wx w.heap.size h.size (TSX wx h).out hlg)
 have CK:=Hd (fun (ok:OkS S) (wx:World) (h:Below w.heap.size w wx)=>check_all S ok _ _ _ wx w.heap.size h.size (TSX wx h).out (hw.below h))
 have CT:=Hd (fun (kk:Nat) (ok:OkS (turnS S kk)) (A':Option Addr) (c':Nat) (wx:World) (h:Below w.heap.size w wx) (hr:RowT wx (fun b=>b < wx.heap.size) (rowOf encDefn (turnS S kk).defs) A')=>check_all (turnS S kk) ok (.slice A' (turnS S kk).defs.length c') (.string S.query) (.string S.mutation) wx wx.heap.size (Nat.le_refl _) (defs_ts hqz hmz (Nat.le_trans (Nat.le_of_eq (turn_len S kk)) hl) hr) (hw.below h))
 have AW:=Hd (fun (wx:World) (h:Below w.heap.size w wx)=>exwake_any wx (hw.below h))
 have HOK:=Hd (fun (h:ligN S≤4000)=>okS_of h hz)
 have HOT:=Hd (fun (kk:Nat) (h:ligN S≤4000)=>turn_ok kk h hz)
 have HR:=Hd (fun (wx:World) (h:Below w.heap.size w wx)=>RowT.below h hR)
 have HZ0:=Hd hz.1
 have K1:KSB w #[.slice A S.defs.length k,.string S.query,.string S.mutation] (w.alloc (.cells #[.slice A S.defs.length k,.string S.query,.string S.mutation] 24)):=⟨dbelow_new _ _,heap_alloc_new _ _⟩
 have HK1:=Hd K1
 clear hw hz hlg hS hR e TSX K1 hqz hmz
 obtain ⟨i0,z,hi,hz0,hz1,hz2,hz3⟩:=cinfo_dfn
 go_enter Tryz.func4,Tryz.ntmps4
 go_upto_region 1 with fail
 generalize w.alloc (.cells #[.slice A S.defs.length k,.string S.query,.string S.mutation] 24)=w1 at HK1 ⊢
 obtain ⟨z0,z1,z2⟩:=three_cells HK1.out.box
 obtain ⟨lb,hlb⟩:∃ b,decide (((ligN S:Nat):Int)≤4000)=b:=⟨_,rfl⟩
 have LB:=Hd hlb
 rw [hlb] at LG
 clear hlb
 cases lb with
 | false =>
   go_wp2_with fail
   refine (LG.out _ HK1.out.low).mono ?_
   rintro e w2 ⟨rfl,hb⟩
   have K2:=Hd (HK1.out.next hb)
   clear hb
   go_wp2_with fail
   refine (AW.out _ K2.out.low).mono ?_
   rintro e w3 ⟨rfl,hb⟩
   have K3:=Hd (K2.out.next hb)
   clear hb
   go_wp2_with fail
   go_ret
   exact ⟨rfl,K3.out.low⟩
 | true =>
   have HOK1:=Hd (HOK.out (by have:=of_decide_eq_true LB.out;omega))
   have H4:Hid (ligN S≤4000):=Hd (by have:=of_decide_eq_true LB.out;omega)
   cases hln:(((S.defs.length:Nat):Int) == 0) with
   | true =>
     go_wp2_with fail
     refine (LG.out _ HK1.out.low).mono ?_
     rintro e w2 ⟨rfl,hb⟩
     have K2:=Hd (HK1.out.next hb)
     clear hb z0 z1 z2 LG
     obtain ⟨z0,z1,z2⟩:=three_cells K2.out.box
     go_wp2_with fail
     refine (AW.out _ K2.out.low).mono ?_
     rintro e w3 ⟨rfl,hb⟩
     have K3:=Hd (K2.out.next hb)
     clear hb
     go_wp2_with fail
     go_ret
     exact ⟨rfl,K3.out.low⟩
   | false =>
     go_wp2_with fail
     refine (LG.out _ HK1.out.low).mono ?_
     rintro e w2 ⟨rfl,hb⟩
     have K2:=Hd (HK1.out.next hb)
     clear hb z0 z1 z2 LG
     obtain ⟨z0,z1,z2⟩:=three_cells K2.out.box
     have CK1:=Hd (CK.out HOK1.out)
     have HZK:=Hd (fun (h:checkS S=0) (kk:Nat)=>turn_check kk h)
     clear CK
     obtain ⟨kz,hkz⟩:∃ x,checkS S=x:=⟨_,rfl⟩
     rw [hkz] at CK1 HZK
     clear hkz
     cases e0:(kz == 0) with
     | false =>
       go_wp2_with fail
       refine (CK1.out _ K2.out.low).mono ?_
       rintro e w3 ⟨rfl,hb⟩
       have K3:=Hd (K2.out.next hb)
       clear hb
       go_wp2_with fail
       refine (AW.out _ K3.out.low).mono ?_
       rintro e w4 ⟨rfl,hb⟩
       have K4:=Hd (K3.out.next hb)
       clear hb
       go_wp2_with fail
       go_ret
       exact ⟨rfl,K4.out.low⟩
     | true =>
       have e1:kz=0:=eq_of_beq e0
       subst e1
       go_wp2_with fail
       refine (CK1.out _ K2.out.low).mono ?_
       rintro e w3 ⟨rfl,hb⟩
       have K3:=Hd (K2.out.next hb)
       clear hb CK1 K2 HK1 z0 z1 z2
       obtain ⟨z0,z1,z2⟩:=three_cells K3.out.box
       have hpos:0 < S.defs.length:=by
         rcases Nat.eq_zero_or_pos S.defs.length with h|h
         · rw [h] at hln
           simp at hln
         · exact h
       obtain ⟨kk,hkk,hwr⟩:=turn_place by_ S.defs.length hpos hl
       have HWR:=Hd hwr
       have HCK:=Hd (HZK.out trivial kk)
       clear hwr hln HZK e0
       go_upto_region 4 with fail
       rw [HWR.out]
       clear HWR
       have HKD:Hid (KSB w #[.slice A S.defs.length k,.string S.query,.string S.mutation] w3.drew):=Hd (K3.out.next (Below.drew (Below.refl _ _)))
       obtain ⟨bd,pd,rfl,hbd⟩:∃ b o,A=some ⟨b,o,none⟩∧b < w.heap.size:=by
         obtain ⟨b,p,_,_,_,_,_,_,e,hb,_⟩:=defn_at (HR.out _ HKD.out.low) (List.getElem?_eq_getElem hpos)
         exact ⟨b,p,e,hb⟩
       obtain ⟨zs,hn1,hn2⟩:=row_news (HR.out _ HKD.out.low)
       have hlen:zs.length=S.defs.length*6:=tlv_len len_dfn hn1
       have hone:∀ u,u ∈ zs→u.oneCell'=true:=tlv_one one_dfn hn1
       rw [← List.take_append_drop kk S.defs] at hn1
       obtain ⟨ys,xs,rfl,hy1,hx1⟩:=tlv_cut hn1
       have hyl:ys.length=kk*6:=by rw [tlv_len len_dfn hy1,List.length_take,Nat.min_eq_left (by omega)]
       have hxl:xs.length=(S.defs.length - kk)*6:=by rw [tlv_len len_dfn hx1,List.length_drop]
       have NX:∀ (j:Nat) u,xs[j]? = some u→w3.drew.cell? ((⟨bd,pd+kk*6,none⟩:Addr).add j)=some u:=fun j u hj=>by
         rw [add_at,Nat.add_assoc]
         refine hn2 _ _ ?_
         rw [List.getElem?_append_right (by omega)]
         rw [hyl,Nat.add_sub_cancel_left]
         exact hj
       have NY:∀ (j:Nat) u,ys[j]? = some u→w3.drew.cell? ((⟨bd,pd,none⟩:Addr).add j)=some u:=fun j u hj=>by
         rw [add_at]
         refine hn2 _ _ ?_
         rw [List.getElem?_append_left (List.getElem?_eq_some_iff.1 hj).1]
         exact hj
       have OX:∀ u,u ∈ xs→u.oneCell'=true:=fun u hu=>hone u (List.mem_append_right _ hu)
       have OY:∀ u,u ∈ ys→u.oneCell'=true:=fun u hu=>hone u (List.mem_append_left _ hu)
       have hkk1:kk≤S.defs.length:=by omega
       have hkk2:kk≤k:=by omega
       have hkk3 : ¬ k=kk:=by omega
       have hlt:=HKD.out.lt
       have hbd1:bd < w3.drew.heap.size:=Nat.lt_trans hbd hlt
       clear hn2 hlen hone
       generalize hwd:w3.drew=wd at HKD NX NY hx1 hy1 hlt hbd1
       refine wp_region_held_drew (S:=fun _=>True) (by kernel_rfl) trivial (fun _=>?_)
       rw [hwd]
       clear hwd
       obtain ⟨z0,z1,z2⟩:=three_cells HKD.out.box
       refine wpAnyH_take (i:=0) (oi:=_) (v:=?_) rfl (by kernel_rfl) (by kernel_rfl) (by kernel_rfl) (fun _ _ _ h=>h) (Or.inl ⟨by rfl,?_⟩) trivial ?_
       rotate_left
       · (intro w _;go_simp;try with_reducible rfl)
       try simp only [Act.put,List.getElem_toArray,List.getElem_cons_zero,List.setIfInBounds_toArray,List.set_cons_zero,List.set_cons_succ]
       refine wpAnyH_take (i:=2) (oi:=_) (v:=?_) rfl (by kernel_rfl) (by kernel_rfl) (by kernel_rfl) (fun _ _ _ h=>h) (Or.inl ⟨by rfl,?_⟩) trivial ?_
       rotate_left
       · (intro w _;go_simp;try with_reducible rfl)
       try simp only [Act.put,List.getElem_toArray,List.setIfInBounds_toArray]
       refine wpAnyH_take (i:=5) (oi:=_) (v:=?_) rfl (by kernel_rfl) (by kernel_rfl) (by kernel_rfl) (fun _ _ _ h=>h) (Or.inl ⟨by rfl,?_⟩) trivial ?_
       rotate_left
       · (intro w _;go_simp;try with_reducible rfl)
       try simp only [Act.put,List.getElem_toArray]
       refine wpAnyH_take (i:=7) (oi:=_) (v:=?_) rfl (by kernel_rfl) (by kernel_rfl) (by kernel_rfl) (fun _ _ _ h=>h) (Or.inl ⟨by rfl,?_⟩) trivial ?_
       rotate_left
       · (intro w _;go_simp;try with_reducible rfl)
       try simp only [Act.put,List.getElem_toArray]
       refine wpAnyH_ready (rs:=[1,6]) (by kernel_rfl) (by simp) ?_
       refine AllReadyH.cons (o:=_) rfl (fun K hK=>?_) ?_
       · go_simp
         refine hK.out _ _ trivial (fun _=>?_)
         clear hK K
         try simp only [Act.put,List.getElem_toArray,List.getElem_cons_zero,List.setIfInBounds_toArray,List.set_cons_zero,List.set_cons_succ]
         refine wpAnyH_take (i:=3) (oi:=_) (v:=?_) rfl (by kernel_rfl) (by kernel_rfl) (by kernel_rfl) (fun _ _ _ h=>h) (Or.inl ⟨by rfl,?_⟩) trivial ?_
         rotate_left
         · (intro w _;go_simp;try with_reducible rfl)
         try simp only [Act.put,List.getElem_toArray,List.setIfInBounds_toArray]
         refine wpAnyH_ready (rs:=[4,6]) (by kernel_rfl) (by simp) ?_
         refine AllReadyH.cons (o:=_) rfl (fun K hK=>?_) ?_
         · refine step_app_row rfl _ _ 22 (by rfl) wd.heap.size 37 i0 z 6 120 Tryz.underlying22 hi hz0 hz1 hz2 hz3 (by decide) _ 0 [] (by rfl) (World.ownsRow_nil wd wd.heap.size 37 6) ⟨bd,pd+kk*6,none⟩ (S.defs.length - kk) (k - kk) xs (by rfl) hxl NX OX (by unfold maxLen;omega) (by have:=HZ0.out;omega) (Nat.le_refl _) ?_
           intro V4 w4 hown hgrow
           have HG4:=Hd hgrow
           have HO4:=Hd hown
           have HB4:=Hd (below_grown (B:=wd.heap.size) (Below.refl _ _) HG4.out (Nat.le_refl _) (fun b hb=>by have e:none=some b:=hb;cases e))
           have NY4:∀ (j:Nat) u,ys[j]? = some u→w4.cell? ((⟨bd,pd,none⟩:Addr).add j)=some u:=fun j u hj=>(HB4.out.cell (by rw [add_at];exact hbd1)).trans (NY j u hj)
           clear hown hgrow
           refine hK.out _ _ trivial (fun _=>?_)
           clear hK K
           try simp only [Act.put,List.getElem_toArray]
           refine wpAnyH_ready (rs:=[6]) (by kernel_rfl) (by simp) ?_
           refine AllReadyH.cons (o:=_) rfl (fun K hK=>?_) AllReadyH.nil
           obtain ⟨z0,z1,z2⟩:=three_cells (HKD.out.next HB4.out).box
           go_simp
           refine hK.out _ _ trivial (fun _=>?_)
           clear hK K
           try simp only [Act.put,List.getElem_toArray,List.getElem_cons_zero,List.setIfInBounds_toArray,List.set_cons_zero,List.set_cons_succ]
           refine wpAnyH_take (i:=8) (oi:=_) (v:=?_) rfl (by kernel_rfl) (by kernel_rfl) (by kernel_rfl) (fun _ _ _ h=>h) (Or.inl ⟨by rfl,?_⟩) trivial ?_
           rotate_left
           · (intro w _;go_simp;try with_reducible rfl)
           try simp only [Act.put,List.getElem_toArray,List.setIfInBounds_toArray]
           refine wpAnyH_ready (rs:=[9]) (by kernel_rfl) (by simp) ?_
           refine AllReadyH.cons (o:=_) rfl (fun K hK=>?_) AllReadyH.nil
           refine step_app_row rfl _ _ 22 (by rfl) wd.heap.size 37 i0 z 6 120 Tryz.underlying22 hi hz0 hz1 hz2 hz3 (by decide) _ (0+(S.defs.length - kk)) ([]++xs) (by rfl) HO4.out ⟨bd,pd,none⟩ kk k ys (by rfl) hyl NY4 OY (by unfold maxLen;omega) (by have:=HZ0.out;omega) (HB4.out.size) ?_
           intro V5 w5 hown hgrow
           have e5:0+(S.defs.length - kk)+kk=(turnS S kk).defs.length:=by rw [turn_len];omega
           rw [e5] at hown
           obtain ⟨A5,c5,rfl⟩:=shape_own hown
           clear e5
           have HB5:=Hd (below_grown HB4.out hgrow HB4.out.size (fun b hb=>(World.ownsRow.lt HO4.out b hb).1))
           have HO5:=Hd hown
           have HK5:=Hd (HKD.out.next HB5.out)
           clear hown hgrow
           refine hK.out _ _ trivial (fun _=>?_)
           clear hK K
           try simp only [Act.put,List.getElem_toArray]
           refine wpAnyH_take (i:=10) (oi:=_) (v:=?_) rfl (by kernel_rfl) (by kernel_rfl) (by kernel_rfl) (fun _ _ _ h=>h) (Or.inl ⟨by rfl,?_⟩) trivial ?_
           rotate_left
           · (intro w _;go_simp;try with_reducible rfl)
           try simp only [Act.put,List.getElem_toArray]
           refine wpAnyH_ready (rs:=[11]) (by kernel_rfl) (by simp) ?_
           refine AllReadyH.cons (o:=_) rfl (fun K hK=>?_) AllReadyH.nil
           obtain ⟨z0,z1,z2⟩:=three_cells HK5.out.box
           have f5:w5.frozen? ⟨w.heap.size,0,none⟩=false:=cells_frozen HK5.out.box 0
           go_simp
           refine hK.out _ _ trivial (fun _=>?_)
           clear hK K
           try simp only [Act.put,List.getElem_toArray,List.getElem_cons_zero,List.setIfInBounds_toArray,List.set_cons_zero,List.set_cons_succ]
           refine wpAnyH_done (by kernel_rfl) ?_ _
           have HK6:=Hd (HK5.out.set (.slice A5 (turnS S kk).defs.length c5))
           have D5:DefsO w.heap.size wd.heap.size w5 (.slice A5 (turnS S kk).defs.length c5) (turnS S kk).defs:=⟨_,HO5.out,TLV.keep (fun b hb=>⟨hb,HB5.out.block b (Nat.lt_trans hb hlt)⟩) (g_tlv hy1 hx1)⟩
           obtain ⟨A',c',e,hr⟩:=D5.rowX (Nat.le_refl _) hlt
           injection e with e1 _ e3
           subst e1 e3
           have CT1:=Hd (CT.out kk (HOT.out kk H4.out) A5 c5 _ HK6.out.low (row_set hr))
           generalize hw6:w5.setCell ⟨w.heap.size,0,none⟩ (Value.slice A5 (turnS S kk).defs.length c5)=w6 at HK6 CT1 ⊢
           clear hw6
           obtain ⟨z0,z1,z2⟩:=three_cells HK6.out.box
           rw [HCK.out] at CT1
           clear D5 HO5 HK5 HB5 hr CT f5
           go_wp2_with fail
           refine CT1.out.mono ?_
           rintro e w7 ⟨rfl,hb⟩
           have HK7:=Hd (HK6.out.next hb)
           clear hb
           go_wp2_with fail
           refine (AW.out _ HK7.out.low).mono ?_
           rintro e w8 ⟨rfl,hb⟩
           have HK8:=Hd (HK7.out.next hb)
           clear hb
           go_wp2_with fail
           go_ret
           exact ⟨rfl,HK8.out.low⟩
         refine AllReadyH.cons (o:=_) rfl (fun K hK=>?_) AllReadyH.nil
         go_simp
         refine hK.out _ _ trivial (fun _=>?_)
         clear hK K
         try simp only [Act.put,List.getElem_toArray,List.getElem_cons_zero,List.setIfInBounds_toArray,List.set_cons_zero,List.set_cons_succ]
         refine wpAnyH_take (i:=8) (oi:=_) (v:=?_) rfl (by kernel_rfl) (by kernel_rfl) (by kernel_rfl) (fun _ _ _ h=>h) (Or.inl ⟨by rfl,?_⟩) trivial ?_
         rotate_left
         · (intro w _;go_simp;try with_reducible rfl)
         try simp only [Act.put,List.getElem_toArray,List.setIfInBounds_toArray]
         refine wpAnyH_ready (rs:=[4]) (by kernel_rfl) (by simp) ?_
         refine AllReadyH.cons (o:=_) rfl (fun K hK=>?_) AllReadyH.nil
         refine step_app_row rfl _ _ 22 (by rfl) wd.heap.size 37 i0 z 6 120 Tryz.underlying22 hi hz0 hz1 hz2 hz3 (by decide) _ 0 [] (by rfl) (World.ownsRow_nil wd wd.heap.size 37 6) ⟨bd,pd+kk*6,none⟩ (S.defs.length - kk) (k - kk) xs (by rfl) hxl NX OX (by unfold maxLen;omega) (by have:=HZ0.out;omega) (Nat.le_refl _) ?_
         intro V4 w4 hown hgrow
         have HG4:=Hd hgrow
         have HO4:=Hd hown
         have HB4:=Hd (below_grown (B:=wd.heap.size) (Below.refl _ _) HG4.out (Nat.le_refl _) (fun b hb=>by have e:none=some b:=hb;cases e))
         have NY4:∀ (j:Nat) u,ys[j]? = some u→w4.cell? ((⟨bd,pd,none⟩:Addr).add j)=some u:=fun j u hj=>(HB4.out.cell (by rw [add_at];exact hbd1)).trans (NY j u hj)
         clear hown hgrow
         refine hK.out _ _ trivial (fun _=>?_)
         clear hK K
         try simp only [Act.put,List.getElem_toArray]
         refine wpAnyH_ready (rs:=[9]) (by kernel_rfl) (by simp) ?_
         refine AllReadyH.cons (o:=_) rfl (fun K hK=>?_) AllReadyH.nil
         refine step_app_row rfl _ _ 22 (by rfl) wd.heap.size 37 i0 z 6 120 Tryz.underlying22 hi hz0 hz1 hz2 hz3 (by decide) _ (0+(S.defs.length - kk)) ([]++xs) (by rfl) HO4.out ⟨bd,pd,none⟩ kk k ys (by rfl) hyl NY4 OY (by unfold maxLen;omega) (by have:=HZ0.out;omega) (HB4.out.size) ?_
         intro V5 w5 hown hgrow
         have e5:0+(S.defs.length - kk)+kk=(turnS S kk).defs.length:=by rw [turn_len];omega
         rw [e5] at hown
         obtain ⟨A5,c5,rfl⟩:=shape_own hown
         clear e5
         have HB5:=Hd (below_grown HB4.out hgrow HB4.out.size (fun b hb=>(World.ownsRow.lt HO4.out b hb).1))
         have HO5:=Hd hown
         have HK5:=Hd (HKD.out.next HB5.out)
         clear hown hgrow
         refine hK.out _ _ trivial (fun _=>?_)
         clear hK K
         try simp only [Act.put,List.getElem_toArray]
         refine wpAnyH_take (i:=10) (oi:=_) (v:=?_) rfl (by kernel_rfl) (by kernel_rfl) (by kernel_rfl) (fun _ _ _ h=>h) (Or.inl ⟨by rfl,?_⟩) trivial ?_
         rotate_left
         · (intro w _;go_simp;try with_reducible rfl)
         try simp only [Act.put,List.getElem_toArray]
         refine wpAnyH_ready (rs:=[11]) (by kernel_rfl) (by simp) ?_
         refine AllReadyH.cons (o:=_) rfl (fun K hK=>?_) AllReadyH.nil
         obtain ⟨z0,z1,z2⟩:=three_cells HK5.out.box
         have f5:w5.frozen? ⟨w.heap.size,0,none⟩=false:=cells_frozen HK5.out.box 0
         go_simp
         refine hK.out _ _ trivial (fun _=>?_)
         clear hK K
         try simp only [Act.put,List.getElem_toArray,List.getElem_cons_zero,List.setIfInBounds_toArray,List.set_cons_zero,List.set_cons_succ]
         refine wpAnyH_done (by kernel_rfl) ?_ _
         have HK6:=Hd (HK5.out.set (.slice A5 (turnS S kk).defs.length c5))
         have D5:DefsO w.heap.size wd.heap.size w5 (.slice A5 (turnS S kk).defs.length c5) (turnS S kk).defs:=⟨_,HO5.out,TLV.keep (fun b hb=>⟨hb,HB5.out.block b (Nat.lt_trans hb hlt)⟩) (g_tlv hy1 hx1)⟩
         obtain ⟨A',c',e,hr⟩:=D5.rowX (Nat.le_refl _) hlt
         injection e with e1 _ e3
         subst e1 e3
         have CT1:=Hd (CT.out kk (HOT.out kk H4.out) A5 c5 _ HK6.out.low (row_set hr))
         generalize hw6:w5.setCell ⟨w.heap.size,0,none⟩ (Value.slice A5 (turnS S kk).defs.length c5)=w6 at HK6 CT1 ⊢
         clear hw6
         obtain ⟨z0,z1,z2⟩:=three_cells HK6.out.box
         rw [HCK.out] at CT1
         clear D5 HO5 HK5 HB5 hr CT f5
         go_wp2_with fail
         refine CT1.out.mono ?_
         rintro e w7 ⟨rfl,hb⟩
         have HK7:=Hd (HK6.out.next hb)
         clear hb
         go_wp2_with fail
         refine (AW.out _ HK7.out.low).mono ?_
         rintro e w8 ⟨rfl,hb⟩
         have HK8:=Hd (HK7.out.next hb)
         clear hb
         go_wp2_with fail
         go_ret
         exact ⟨rfl,HK8.out.low⟩
       refine AllReadyH.cons (o:=_) rfl (fun K hK=>?_) AllReadyH.nil
       go_simp
       refine hK.out _ _ trivial (fun _=>?_)
       clear hK K
       try simp only [Act.put,List.getElem_toArray,List.getElem_cons_zero,List.setIfInBounds_toArray,List.set_cons_zero,List.set_cons_succ]
       refine wpAnyH_take (i:=8) (oi:=_) (v:=?_) rfl (by kernel_rfl) (by kernel_rfl) (by kernel_rfl) (fun _ _ _ h=>h) (Or.inl ⟨by rfl,?_⟩) trivial ?_
       rotate_left
       · (intro w _;go_simp;try with_reducible rfl)
       try simp only [Act.put,List.getElem_toArray,List.setIfInBounds_toArray]
       refine wpAnyH_ready (rs:=[1]) (by kernel_rfl) (by simp) ?_
       refine AllReadyH.cons (o:=_) rfl (fun K hK=>?_) AllReadyH.nil
       go_simp
       refine hK.out _ _ trivial (fun _=>?_)
       clear hK K
       try simp only [Act.put,List.getElem_toArray,List.getElem_cons_zero,List.setIfInBounds_toArray,List.set_cons_zero,List.set_cons_succ]
       refine wpAnyH_take (i:=3) (oi:=_) (v:=?_) rfl (by kernel_rfl) (by kernel_rfl) (by kernel_rfl) (fun _ _ _ h=>h) (Or.inl ⟨by rfl,?_⟩) trivial ?_
       rotate_left
       · (intro w _;go_simp;try with_reducible rfl)
       try simp only [Act.put,List.getElem_toArray,List.setIfInBounds_toArray]
       refine wpAnyH_ready (rs:=[4]) (by kernel_rfl) (by simp) ?_
       refine AllReadyH.cons (o:=_) rfl (fun K hK=>?_) AllReadyH.nil
       refine step_app_row rfl _ _ 22 (by rfl) wd.heap.size 37 i0 z 6 120 Tryz.underlying22 hi hz0 hz1 hz2 hz3 (by decide) _ 0 [] (by rfl) (World.ownsRow_nil wd wd.heap.size 37 6) ⟨bd,pd+kk*6,none⟩ (S.defs.length - kk) (k - kk) xs (by rfl) hxl NX OX (by unfold maxLen;omega) (by have:=HZ0.out;omega) (Nat.le_refl _) ?_
       intro V4 w4 hown hgrow
       have HG4:=Hd hgrow
       have HO4:=Hd hown
       have HB4:=Hd (below_grown (B:=wd.heap.size) (Below.refl _ _) HG4.out (Nat.le_refl _) (fun b hb=>by have e:none=some b:=hb;cases e))
       have NY4:∀ (j:Nat) u,ys[j]? = some u→w4.cell? ((⟨bd,pd,none⟩:Addr).add j)=some u:=fun j u hj=>(HB4.out.cell (by rw [add_at];exact hbd1)).trans (NY j u hj)
       clear hown hgrow
       refine hK.out _ _ trivial (fun _=>?_)
       clear hK K
       try simp only [Act.put,List.getElem_toArray]
       refine wpAnyH_ready (rs:=[9]) (by kernel_rfl) (by simp) ?_
       refine AllReadyH.cons (o:=_) rfl (fun K hK=>?_) AllReadyH.nil
       refine step_app_row rfl _ _ 22 (by rfl) wd.heap.size 37 i0 z 6 120 Tryz.underlying22 hi hz0 hz1 hz2 hz3 (by decide) _ (0+(S.defs.length - kk)) ([]++xs) (by rfl) HO4.out ⟨bd,pd,none⟩ kk k ys (by rfl) hyl NY4 OY (by unfold maxLen;omega) (by have:=HZ0.out;omega) (HB4.out.size) ?_
       intro V5 w5 hown hgrow
       have e5:0+(S.defs.length - kk)+kk=(turnS S kk).defs.length:=by rw [turn_len];omega
       rw [e5] at hown
       obtain ⟨A5,c5,rfl⟩:=shape_own hown
       clear e5
       have HB5:=Hd (below_grown HB4.out hgrow HB4.out.size (fun b hb=>(World.ownsRow.lt HO4.out b hb).1))
       have HO5:=Hd hown
       have HK5:=Hd (HKD.out.next HB5.out)
       clear hown hgrow
       refine hK.out _ _ trivial (fun _=>?_)
       clear hK K
       try simp only [Act.put,List.getElem_toArray]
       refine wpAnyH_take (i:=10) (oi:=_) (v:=?_) rfl (by kernel_rfl) (by kernel_rfl) (by kernel_rfl) (fun _ _ _ h=>h) (Or.inl ⟨by rfl,?_⟩) trivial ?_
       rotate_left
       · (intro w _;go_simp;try with_reducible rfl)
       try simp only [Act.put,List.getElem_toArray]
       refine wpAnyH_ready (rs:=[11]) (by kernel_rfl) (by simp) ?_
       refine AllReadyH.cons (o:=_) rfl (fun K hK=>?_) AllReadyH.nil
       obtain ⟨z0,z1,z2⟩:=three_cells HK5.out.box
       have f5:w5.frozen? ⟨w.heap.size,0,none⟩=false:=cells_frozen HK5.out.box 0
       go_simp
       refine hK.out _ _ trivial (fun _=>?_)
       clear hK K
       try simp only [Act.put,List.getElem_toArray,List.getElem_cons_zero,List.setIfInBounds_toArray,List.set_cons_zero,List.set_cons_succ]
       refine wpAnyH_done (by kernel_rfl) ?_ _
       have HK6:=Hd (HK5.out.set (.slice A5 (turnS S kk).defs.length c5))
       have D5:DefsO w.heap.size wd.heap.size w5 (.slice A5 (turnS S kk).defs.length c5) (turnS S kk).defs:=⟨_,HO5.out,TLV.keep (fun b hb=>⟨hb,HB5.out.block b (Nat.lt_trans hb hlt)⟩) (g_tlv hy1 hx1)⟩
       obtain ⟨A',c',e,hr⟩:=D5.rowX (Nat.le_refl _) hlt
       injection e with e1 _ e3
       subst e1 e3
       have CT1:=Hd (CT.out kk (HOT.out kk H4.out) A5 c5 _ HK6.out.low (row_set hr))
       generalize hw6:w5.setCell ⟨w.heap.size,0,none⟩ (Value.slice A5 (turnS S kk).defs.length c5)=w6 at HK6 CT1 ⊢
       clear hw6
       obtain ⟨z0,z1,z2⟩:=three_cells HK6.out.box
       rw [HCK.out] at CT1
       clear D5 HO5 HK5 HB5 hr CT f5
       go_wp2_with fail
       refine CT1.out.mono ?_
       rintro e w7 ⟨rfl,hb⟩
       have HK7:=Hd (HK6.out.next hb)
       clear hb
       go_wp2_with fail
       refine (AW.out _ HK7.out.low).mono ?_
       rintro e w8 ⟨rfl,hb⟩
       have HK8:=Hd (HK7.out.next hb)
       clear hb
       go_wp2_with fail
       go_ret
       exact ⟨rfl,HK8.out.low⟩
end Go.Proofs.YtaekdfcpbepepaaGreatDoor.LSTurn
