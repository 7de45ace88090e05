/- syntax.Place outside of selections: values, arguments, directives. (gen_right.py wrote it.) -/
import Derived.Test.YtaekdfcpbepepaaGreatDoorQbz
import Derived.Test.YtaekdfcpbepepaaGreatDoorQb20
import Derived.Test.YtaekdfcpbepepaaGreatDoorQb21
set_option maxRecDepth 100000
set_option maxHeartbeats 4000000
namespace Go.Proofs.YtaekdfcpbepepaaGreatDoor
open List renaming getElem_toArray → zgA, getElem_cons_zero → zgB, getElem_cons_succ → zgC
open Go.RowKit
def QC (wz:World) (cs:List (Nat × Nat × Value)) (W:World):Prop:=(∀ p,p ∈ cs→W.cell? ⟨p.1,p.2.1,none⟩=some p.2.2)∧Below wz.heap.size wz W
theorem QC.next {wz W W':World} {cs:List (Nat × Nat × Value)} (h:QC wz cs W) (hl:∀ p,p ∈ cs→p.1 < wz.heap.size) (hb:Below W.heap.size W W'):QC wz cs W':=
 ⟨fun p hp=>(hb.cell (p:=⟨p.1,p.2.1,none⟩) (Nat.lt_of_lt_of_le (hl p hp) h.2.size)).trans (h.1 p hp),h.2.trans (hb.mono h.2.size)⟩
theorem qv_written {wz W:World} {a1 b1 a2 b2 a3 b3 a4 b4 a5 b5 a6 b6 a7 b7:Nat} {v1 v2 v3 v4 v5 v6 v7:Value} (h:QC wz [(a1,b1,v1),(a2,b2,v2),(a3,b3,v3),(a4,b4,v4),(a5,b5,v5),(a6,b6,v6),(a7,b7,v7)] W) :
  W.cell? ⟨a1,b1,none⟩=some v1∧W.cell? ⟨a2,b2,none⟩=some v2∧W.cell? ⟨a3,b3,none⟩=some v3∧W.cell? ⟨a4,b4,none⟩=some v4∧W.cell? ⟨a5,b5,none⟩=some v5∧W.cell? ⟨a6,b6,none⟩=some v6∧W.cell? ⟨a7,b7,none⟩=some v7∧QC wz [(a1,b1,v1),(a2,b2,v2),(a3,b3,v3),(a4,b4,v4),(a5,b5,v5),(a6,b6,v6),(a7,b7,v7)] W:=
 ⟨h.1 (a1,b1,v1) (by simp),h.1 (a2,b2,v2) (by simp),h.1 (a3,b3,v3) (by simp),h.1 (a4,b4,v4) (by simp),h.1 (a5,b5,v5) (by simp),h.1 (a6,b6,v6) (by simp),h.1 (a7,b7,v7) (by simp),h⟩
theorem qv_held {wz W:World} {cs:List (Nat × Nat × Value)} {p1 p2 p3 p4 p5 p6 p7:Prop} (h:p1∧p2∧p3∧p4∧p5∧p6∧p7∧QC wz cs W):Below wz.heap.size wz W:=h.2.2.2.2.2.2.2.2
theorem qv_last {wz W:World} {cs:List (Nat × Nat × Value)} {p1 p2 p3 p4 p5 p6 p7:Prop} (h:p1∧p2∧p3∧p4∧p5∧p6∧p7∧QC wz cs W):QC wz cs W:=h.2.2.2.2.2.2.2
def placeB (v:VT):Bool:=plainB v && decide ((varsV v []).length=0)
theorem plain_deep {v:VT} (h:plainB v=true):depV v≤16:=by
 unfold plainB at h
 rw [Bool.and_eq_true,decide_eq_true_eq] at h
 exact h.2
theorem ret_place {R:Ending→World→Prop} {fn:Func} {a:Act} {W:World} {c0 c1:Value} {p b:Nat} (hf:fn.results=#[.cell p 185]) (h2:a.tmps.getD p undef=.pointer (some ⟨b,0,none⟩)) (hd:a.defers=[])
  (hc:W.heap[b]? = some (.cells #[c0,c1] 185 (0,0))) (hR:R (.returned (.agg #[c0,c1])) W):bodyPost Tryz.prog fn R .ret a W:=by
 have hl:(loadVar 185 ⟨b,0,none⟩).run Tryz.prog W=.ok (.agg #[c0,c1]) W:=
  run_loadVar_row W b 185 185 #[c0,c1] (0,0) _ hc Tryz.underlying185 rfl (by kernel_rfl)
 refine bodyPost_ret ?_ hd hR
 have h2':a.tmps[p]?.getD undef=.pointer (some ⟨b,0,none⟩):=by rw [← h2];simp
 simp [results,hf,h2',asAddr,hl]
theorem outside_any (w:World):Calls Tryz.prog 195 #[] w fun e w'=>e=.returned (.agg #[.int .i64 0,.bool true])∧Below w.heap.size w w':=by
 go_enter Tryz.func195,Tryz.ntmps195
 go_wp2_with fail
 exact ret_place (b:=w.heap.size) (c0:=.int .i64 0) (c1:=.bool true) rfl rfl rfl (heap_alloc_new _ _) ⟨rfl,dbelow_new _ _⟩
structure B2 (w:World) (g:Nat) (o1 o2:Obj) (W:World):Prop where
 low:Below w.heap.size w W
 b0:W.heap[w.heap.size]? = some o1
 b1:W.heap[g]? = some o2
theorem B2.start (w:World) (c0 c1:Array Value) (t0 t1:TypeId):B2 w (w.heap.size+1) (.cells c0 t0 (0,0)) (.cells c1 t1 (0,0)) ((w.alloc (.cells c0 t0)).alloc (.cells c1 t1)):=
 ⟨tbl w _ _,(Below.heap_alloc (w.alloc (.cells c0 t0)) _ w.heap.size (by simp)).trans (heap_alloc_new w (.cells c0 t0)),heap_two w _ _⟩
theorem place_any (v:VT) (hz:sizeV v≤9000) (A3 A4:Option Addr) (k3 k4:Nat) (w:World) (B:Nat) (hB:B≤w.heap.size) (hV:TS w (fun b=>b < B) (encV v) [.int .i64 v.kd,.int .i64 v.nn,.string v.ss,.slice A3 v.ls.len k3,.slice A4 v.ms.len k4]) (hw:Laid5 w) :
   Calls Tryz.prog 197 #[.agg #[.int .i64 0,.bool true],.agg #[.int .i64 v.kd,.int .i64 v.nn,.string v.ss,.slice A3 v.ls.len k3,.slice A4 v.ms.len k4]] w fun e w'=>e=.returned (.bool (placeB v))∧Below w.heap.size w w':=by
 have PL:=Hd (fun (wx:World) (h:Below w.heap.size w wx)=>vplain_any v (by omega) _ _ _ _ _ wx B (Nat.le_trans hB h.size) (ts_vat (TS.low (h.mono hB) hV)) (hw.below h))
 have DE:=Hd (fun (wx:World) (h:Below w.heap.size w wx)=>depth_any v (by omega) _ _ _ _ _ wx B (Nat.le_trans hB h.size) (ts_vat (TS.low (h.mono hB) hV)))
 have VA:=Hd (fun (wx:World) (h:Below w.heap.size w wx)=>vars_any v hz _ _ _ _ _ wx B (Nat.le_trans hB h.size) (ts_vat (TS.low (h.mono hB) hV)))
 have HP:=Hd (fun h=>plain_deep (v:=v) h)
 have X1:=Hd (B2.start w #[.int .i64 0,.bool true] #[.int .i64 v.kd,.int .i64 v.nn,.string v.ss,.slice A3 v.ls.len k3,.slice A4 v.ms.len k4] 185 58)
 have HPB:Hid (placeB v=(plainB v && decide ((varsV v []).length=0))):=Hd rfl
 clear hB hV hw
 go_enter Tryz.func197,Tryz.ntmps197
 go_upto_region 1 with fail
 generalize (w.alloc (.cells #[.int .i64 0,.bool true] 185)).alloc (.cells #[.int .i64 v.kd,.int .i64 v.nn,.string v.ss,.slice A3 v.ls.len k3,.slice A4 v.ms.len k4] 58)=w1 at X1 ⊢
 generalize w.heap.size+1=gv at X1 ⊢
 have HE:Hid (QC w1 [(w.heap.size,0,(Value.int .i64 0)),(w.heap.size,1,(Value.bool true)),(gv,0,(Value.int .i64 v.kd)),(gv,1,(Value.int .i64 v.nn)),(gv,2,(Value.string v.ss)),(gv,3,(Value.slice A3 v.ls.len k3)),(gv,4,(Value.slice A4 v.ms.len k4))] w1):=Hd (by
   obtain ⟨p0,p1⟩:=two_boxS X1.out.b0
   obtain ⟨u0,u1,u2,u3,u4⟩:=five_box X1.out.b1
   refine ⟨fun p hp=>?_,Below.refl _ _⟩
   simp only [List.mem_cons,List.not_mem_nil,or_false] at hp
   rcases hp with rfl|rfl|rfl|rfl|rfl|rfl|rfl<;>assumption)
 have HL:Hid (∀ p,p ∈ [(w.heap.size,0,(Value.int .i64 0)),(w.heap.size,1,(Value.bool true)),(gv,0,(Value.int .i64 v.kd)),(gv,1,(Value.int .i64 v.nn)),(gv,2,(Value.string v.ss)),(gv,3,(Value.slice A3 v.ls.len k3)),(gv,4,(Value.slice A4 v.ms.len k4))]→p.1 < w1.heap.size):=Hd (fun p hp=>by
   have l0:=(Array.getElem?_eq_some_iff.1 X1.out.b0).1
   have l1:=(Array.getElem?_eq_some_iff.1 X1.out.b1).1
   simp only [List.mem_cons,List.not_mem_nil,or_false] at hp
   rcases hp with rfl|rfl|rfl|rfl|rfl|rfl|rfl<;>assumption)
 obtain ⟨pb,hpb⟩:∃ b,plainB v=b:=⟨_,rfl⟩
 rw [hpb] at PL HPB HP
 clear hpb
 cases pb with
 | false =>
   refine wp_region_held_drew (S:=(fun w'=>w'.cell? ⟨w.heap.size,0,none⟩=some (Value.int .i64 0)∧w'.cell? ⟨w.heap.size,1,none⟩=some (Value.bool true)∧w'.cell? ⟨gv,0,none⟩=some (Value.int .i64 v.kd)∧w'.cell? ⟨gv,1,none⟩=some (Value.int .i64 v.nn)∧w'.cell? ⟨gv,2,none⟩=some (Value.string v.ss)∧w'.cell? ⟨gv,3,none⟩=some (Value.slice A3 v.ls.len k3)∧w'.cell? ⟨gv,4,none⟩=some (Value.slice A4 v.ms.len k4)∧QC w1 [(w.heap.size,0,(Value.int .i64 0)),(w.heap.size,1,(Value.bool true)),(gv,0,(Value.int .i64 v.kd)),(gv,1,(Value.int .i64 v.nn)),(gv,2,(Value.string v.ss)),(gv,3,(Value.slice A3 v.ls.len k3)),(gv,4,(Value.slice A4 v.ms.len k4))] w')) (by kernel_rfl) (qv_written (HE.out.next HL.out (Below.drew (Below.refl _ _)))) (fun hHeld=>?_)
   refine ztk 0 (v:=?_) ?_ (by assumption) ?_
   rotate_left
   · (intro w hSw;(try dsimp only at hSw);go_simp;try with_reducible rfl)
   try simp only [Act.put,zgA,zgB,stT,stZ,stS]
   refine wpAnyH_ready (rs:=[1]) (by kernel_rfl) (by simp) ?_
   refine AllReadyH.cons (o:=_) rfl (fun K hK=>?_) AllReadyH.nil
   go_simp
   refine (PL.out _ (X1.out.low.trans (Below.mono (by first|exact qv_held (by assumption)|exact Below.drew (Below.refl _ _)) X1.out.low.size))).mono ?_
   rintro e w' ⟨rfl,hb⟩
   have HBN:=Hd hb
   go_wp2_with fail
   refine hK.out _ _ (qv_written (QC.next (qv_last (by assumption)) HL.out HBN.out)) (fun hHeld=>?_)
   clear hK K
   try simp only [Act.put,zgA,zgB,zgC,stT,stZ,stS]
   refine ztk 2 (v:=?_) ?_ (by assumption) ?_
   rotate_left
   · (intro w hSw;(try dsimp only at hSw);go_simp;try with_reducible rfl)
   try simp only [Act.put,zgA,zgB,zgC,stT,stZ,stS]
   refine ztu 3 (by assumption) ?_
   try simp only [Act.put,zgA,zgB,zgC,stT,stZ,stS]
   refine ztu 4 (by assumption) ?_
   try simp only [Act.put,zgA,zgB,zgC,stT,stZ,stS]
   refine ztu 5 (by assumption) ?_
   try simp only [Act.put,zgA,zgB,zgC,stT,stZ,stS]
   refine ztu 6 (by assumption) ?_
   try simp only [Act.put,zgA,zgB,zgC,stT,stZ,stS]
   refine ztu 7 (by assumption) ?_
   try simp only [Act.put,zgA,zgB,zgC,stT,stZ,stS]
   refine ztu 8 (by assumption) ?_
   try simp only [Act.put,zgA,zgB,zgC,stT,stZ,stS]
   refine ztk 9 (v:=?_) ?_ (by assumption) ?_
   rotate_left
   · (intro w hSw;(try dsimp only at hSw);go_simp;try with_reducible rfl)
   try simp only [Act.put,zgA,zgB,zgC,stT,stZ,stS]
   refine ztk 10 (v:=?_) ?_ (by assumption) ?_
   rotate_left
   · (intro w hSw;(try dsimp only at hSw);go_simp;try with_reducible rfl)
   try simp only [Act.put,zgA,zgB,zgC,stT,stZ,stS]
   refine ztu 11 (by assumption) ?_
   try simp only [Act.put,zgA,zgB,zgC,stT,stZ,stS]
   refine ztu 12 (by assumption) ?_
   try simp only [Act.put,zgA,zgB,zgC,stT,stZ,stS]
   refine ztu 13 (by assumption) ?_
   try simp only [Act.put,zgA,zgB,zgC,stT,stZ,stS]
   refine ztu 14 (by assumption) ?_
   try simp only [Act.put,zgA,zgB,zgC,stT,stZ,stS]
   refine ztu 15 (by assumption) ?_
   try simp only [Act.put,zgA,zgB,zgC,stT,stZ,stS]
   refine ztu 16 (by assumption) ?_
   try simp only [Act.put,zgA,zgB,zgC,stT,stZ,stS]
   refine ztu 17 (by assumption) ?_
   try simp only [Act.put,zgA,zgB,zgC,stT,stZ,stS]
   refine ztu 18 (by assumption) ?_
   try simp only [Act.put,zgA,zgB,zgC,stT,stZ,stS]
   refine ztu 19 (by assumption) ?_
   try simp only [Act.put,zgA,zgB,zgC,stT,stZ,stS]
   refine ztk 20 (v:=?_) ?_ (by assumption) ?_
   rotate_left
   · (intro w hSw;(try dsimp only at hSw);go_simp;try with_reducible rfl)
   try simp only [Act.put,zgA,zgB,zgC,stT,stZ,stS]
   refine ztk 21 (v:=?_) ?_ (by assumption) ?_
   rotate_left
   · (intro w hSw;(try dsimp only at hSw);go_simp;try with_reducible rfl)
   try simp only [Act.put,zgA,zgB,zgC,stT,stZ,stS]
   refine wpAnyH_done (by kernel_rfl) ?_ _
   have HD:=Hd (qv_held hHeld)
   clear hHeld
   have B9:=Hd (X1.out.low.trans (HD.out.mono X1.out.low.size))
   clear HE HL HD X1
   go_wp2_with fail
   go_ret
   exact ⟨by rw [HPB.out];rfl,B9.out⟩
 | true =>
   have hd:=HP.out rfl
   have hd0:(0:Int)+(depV v:Int)=(depV v:Int):=by omega
   have hd1:((depV v:Nat):Int)≤16:=by omega
   have hd2:decide (((depV v:Nat):Int)≤16)=true:=decide_eq_true hd1
   have hd3:IntKind.i64.wrap ((depV v:Nat):Int)=((depV v:Nat):Int):=by simp only [IntKind.wrap_i64];omega
   generalize depV v=dv at DE hd hd0 hd1 hd2 hd3
   refine wp_region_held_drew (S:=(fun w'=>w'.cell? ⟨w.heap.size,0,none⟩=some (Value.int .i64 0)∧w'.cell? ⟨w.heap.size,1,none⟩=some (Value.bool true)∧w'.cell? ⟨gv,0,none⟩=some (Value.int .i64 v.kd)∧w'.cell? ⟨gv,1,none⟩=some (Value.int .i64 v.nn)∧w'.cell? ⟨gv,2,none⟩=some (Value.string v.ss)∧w'.cell? ⟨gv,3,none⟩=some (Value.slice A3 v.ls.len k3)∧w'.cell? ⟨gv,4,none⟩=some (Value.slice A4 v.ms.len k4)∧QC w1 [(w.heap.size,0,(Value.int .i64 0)),(w.heap.size,1,(Value.bool true)),(gv,0,(Value.int .i64 v.kd)),(gv,1,(Value.int .i64 v.nn)),(gv,2,(Value.string v.ss)),(gv,3,(Value.slice A3 v.ls.len k3)),(gv,4,(Value.slice A4 v.ms.len k4))] w')) (by kernel_rfl) (qv_written (HE.out.next HL.out (Below.drew (Below.refl _ _)))) (fun hHeld=>?_)
   refine ztk 0 (v:=?_) ?_ (by assumption) ?_
   rotate_left
   · (intro w hSw;(try dsimp only at hSw);go_simp;try with_reducible rfl)
   try simp only [Act.put,zgA,zgB,stT,stZ,stS]
   refine wpAnyH_ready (rs:=[1]) (by kernel_rfl) (by simp) ?_
   refine AllReadyH.cons (o:=_) rfl (fun K hK=>?_) AllReadyH.nil
   go_simp
   refine (PL.out _ (X1.out.low.trans (Below.mono (by first|exact qv_held (by assumption)|exact Below.drew (Below.refl _ _)) X1.out.low.size))).mono ?_
   rintro e w' ⟨rfl,hb⟩
   have HBN:=Hd hb
   go_wp2_with fail
   refine hK.out _ _ (qv_written (QC.next (qv_last (by assumption)) HL.out HBN.out)) (fun hHeld=>?_)
   clear hK K
   try simp only [Act.put,zgA,zgB,zgC,stT,stZ,stS]
   refine ztk 2 (v:=?_) ?_ (by assumption) ?_
   rotate_left
   · (intro w hSw;(try dsimp only at hSw);go_simp;try with_reducible rfl)
   try simp only [Act.put,zgA,zgB,zgC,stT,stZ,stS]
   refine ztk 3 (v:=?_) ?_ (by assumption) ?_
   rotate_left
   · (intro w hSw;(try dsimp only at hSw);go_simp;try with_reducible rfl)
   try simp only [Act.put,zgA,zgB,zgC,stT,stZ,stS]
   refine ztk 4 (v:=?_) ?_ (by assumption) ?_
   rotate_left
   · (intro w hSw;(try dsimp only at hSw);go_simp;try with_reducible rfl)
   try simp only [Act.put,zgA,zgB,zgC,stT,stZ,stS]
   refine ztk 5 (v:=?_) ?_ (by assumption) ?_
   rotate_left
   · (intro w hSw;(try dsimp only at hSw);go_simp;try with_reducible rfl)
   try simp only [Act.put,zgA,zgB,zgC,stT,stZ,stS]
   refine wpAnyH_ready (rs:=[6]) (by kernel_rfl) (by simp) ?_
   refine AllReadyH.cons (o:=_) rfl (fun K hK=>?_) AllReadyH.nil
   go_simp
   refine (DE.out _ (X1.out.low.trans (Below.mono (by first|exact qv_held (by assumption)|exact Below.drew (Below.refl _ _)) X1.out.low.size))).mono ?_
   rintro e w' ⟨rfl,hb⟩
   have HBN:=Hd hb
   go_wp2_with fail
   refine hK.out _ _ (qv_written (QC.next (qv_last (by assumption)) HL.out HBN.out)) (fun hHeld=>?_)
   clear hK K
   try simp only [Act.put,zgA,zgB,zgC,stT,stZ,stS]
   refine ztk 7 (v:=?_) ?_ (by assumption) ?_
   rotate_left
   · (intro w hSw;(try dsimp only at hSw);go_simp;try with_reducible rfl)
   try simp only [Act.put,zgA,zgB,zgC,stT,stZ,stS]
   refine ztk 8 (v:=?_) ?_ (by assumption) ?_
   rotate_left
   · (intro w hSw;(try dsimp only at hSw);go_simp;try with_reducible rfl)
   try simp only [Act.put,zgA,zgB,zgC,stT,stZ,stS]
   refine ztk 9 (v:=?_) ?_ (by assumption) ?_
   rotate_left
   · (intro w hSw;(try dsimp only at hSw);go_simp;try with_reducible rfl)
   try simp only [Act.put,zgA,zgB,zgC,stT,stZ,stS]
   refine ztk 10 (v:=?_) ?_ (by assumption) ?_
   rotate_left
   · (intro w hSw;(try dsimp only at hSw);go_simp;try with_reducible rfl)
   try simp only [Act.put,zgA,zgB,zgC,stT,stZ,stS]
   refine ztk 11 (v:=?_) ?_ (by assumption) ?_
   rotate_left
   · (intro w hSw;(try dsimp only at hSw);go_simp;try with_reducible rfl)
   try simp only [Act.put,zgA,zgB,zgC,stT,stZ,stS]
   refine ztk 12 (v:=?_) ?_ (by assumption) ?_
   rotate_left
   · (intro w hSw;(try dsimp only at hSw);go_simp;try with_reducible rfl)
   try simp only [Act.put,zgA,zgB,zgC,stT,stZ,stS]
   refine ztk 13 (v:=?_) ?_ (by assumption) ?_
   rotate_left
   · (intro w hSw;(try dsimp only at hSw);go_simp;try with_reducible rfl)
   try simp only [Act.put,zgA,zgB,zgC,stT,stZ,stS]
   refine ztk 14 (v:=?_) ?_ (by assumption) ?_
   rotate_left
   · (intro w hSw;(try dsimp only at hSw);go_simp;try with_reducible rfl)
   try simp only [Act.put,zgA,zgB,zgC,stT,stZ,stS]
   refine wpAnyH_ready (rs:=[15]) (by kernel_rfl) (by simp) ?_
   refine AllReadyH.cons (o:=_) rfl (fun K hK=>?_) AllReadyH.nil
   go_simp
   refine (VA.out _ (X1.out.low.trans (Below.mono (by first|exact qv_held (by assumption)|exact Below.drew (Below.refl _ _)) X1.out.low.size))).mono ?_
   rintro e wc ⟨V,rfl,hrow,hb⟩
   obtain ⟨Av,cv,rfl,_⟩:=SR.strs (show SR _ _ V (varsV v []) from hrow)
   clear hrow
   have HBN:=Hd hb
   go_wp2_with fail
   refine hK.out _ _ (qv_written (QC.next (qv_last (by assumption)) HL.out HBN.out)) (fun hHeld=>?_)
   clear hK K
   try simp only [Act.put,zgA,zgB,zgC,stT,stZ,stS]
   refine ztk 16 (v:=?_) ?_ (by assumption) ?_
   rotate_left
   · (intro w hSw;(try dsimp only at hSw);go_simp;try with_reducible rfl)
   try simp only [Act.put,zgA,zgB,zgC,stT,stZ,stS]
   refine ztk 17 (v:=?_) ?_ (by assumption) ?_
   rotate_left
   · (intro w hSw;(try dsimp only at hSw);go_simp;try with_reducible rfl)
   try simp only [Act.put,zgA,zgB,zgC,stT,stZ,stS]
   refine ztk 18 (v:=?_) ?_ (by assumption) ?_
   rotate_left
   · (intro w hSw;(try dsimp only at hSw);go_simp;try with_reducible rfl)
   try simp only [Act.put,zgA,zgB,zgC,stT,stZ,stS]
   refine ztk 19 (v:=?_) ?_ (by assumption) ?_
   rotate_left
   · (intro w hSw;(try dsimp only at hSw);go_simp;try with_reducible rfl)
   try simp only [Act.put,zgA,zgB,zgC,stT,stZ,stS]
   refine ztk 20 (v:=?_) ?_ (by assumption) ?_
   rotate_left
   · (intro w hSw;(try dsimp only at hSw);go_simp;try with_reducible rfl)
   try simp only [Act.put,zgA,zgB,zgC,stT,stZ,stS]
   refine ztk 21 (v:=?_) ?_ (by assumption) ?_
   rotate_left
   · (intro w hSw;(try dsimp only at hSw);go_simp;try with_reducible rfl)
   try simp only [Act.put,zgA,zgB,zgC,stT,stZ,stS]
   refine wpAnyH_done (by kernel_rfl) ?_ _
   have HD:=Hd (qv_held hHeld)
   clear hHeld
   have B9:=Hd (X1.out.low.trans (HD.out.mono X1.out.low.size))
   clear HE HL HD X1
   go_wp2_with fail
   go_ret
   refine ⟨?_,B9.out⟩
   rw [HPB.out]
   refine congrArg (fun b=>Ending.returned (.bool b)) (?_:(!decide (0 < (varsV v []).length))=(true && decide ((varsV v []).length=0)))
   by_cases h0:(varsV v []).length=0
   · rw [h0];rfl
   · have h1:decide (0 < (varsV v []).length)=true:=decide_eq_true (by omega)
     rw [h1,decide_eq_false h0]
     rfl
def argB (x:ByteArray × VT):Bool:=nameB x.1.data.toList && placeB x.2
theorem arg_any (nm:ByteArray) (v:VT) (hn:nm.size≤9223372036854775807) (hz:sizeV v≤9000) (A3 A4:Option Addr) (k3 k4:Nat) (w:World) (B:Nat) (hB:B≤w.heap.size) (hV:TS w (fun b=>b < B) (encV v) [.int .i64 v.kd,.int .i64 v.nn,.string v.ss,.slice A3 v.ls.len k3,.slice A4 v.ms.len k4]) (hw:Laid5 w) :
   Calls Tryz.prog 220 #[.agg #[.int .i64 0,.bool true],.agg #[.string nm,.int .i64 v.kd,.int .i64 v.nn,.string v.ss,.slice A3 v.ls.len k3,.slice A4 v.ms.len k4]] w fun e w'=>e=.returned (.bool (argB (nm,v)))∧Below w.heap.size w w':=by
 have NA:=Hd (fun (wx:World)=>name_any nm wx hn)
 have PV:=Hd (fun (wx:World) (h:Below w.heap.size w wx)=>place_any v hz A3 A4 k3 k4 wx B (Nat.le_trans hB h.size) (TS.low (h.mono hB) hV) (hw.below h))
 have X1:=Hd (B2.start w #[.int .i64 0,.bool true] #[.string nm,.int .i64 v.kd,.int .i64 v.nn,.string v.ss,.slice A3 v.ls.len k3,.slice A4 v.ms.len k4] 185 97)
 have HPB:Hid (argB (nm,v)=(nameB nm.data.toList && placeB v)):=Hd rfl
 clear hB hV hw
 go_enter Tryz.func220,Tryz.ntmps220
 go_upto_region 1 with fail
 generalize (w.alloc (.cells #[.int .i64 0,.bool true] 185)).alloc (.cells #[.string nm,.int .i64 v.kd,.int .i64 v.nn,.string v.ss,.slice A3 v.ls.len k3,.slice A4 v.ms.len k4] 97)=w1 at X1 ⊢
 generalize w.heap.size+1=gv at X1 ⊢
 obtain ⟨p0,p1⟩:=two_boxS X1.out.b0
 obtain ⟨⟨u0,u1,u2,u3,u4,u5⟩,_⟩:=six_cells X1.out.b1
 obtain ⟨nb,hnb⟩:∃ b,nameB nm.data.toList=b:=⟨_,rfl⟩
 rw [hnb] at NA HPB
 clear hnb
 go_wp2_with fail
 refine (NA.out _).mono ?_
 rintro e w2 ⟨rfl,rfl⟩
 cases nb with
 | false =>
   go_wp2_with fail
   go_ret
   exact ⟨by rw [HPB.out];rfl,X1.out.low⟩
 | true =>
   go_wp2_with fail
   refine (PV.out _ X1.out.low).mono ?_
   rintro e w3 ⟨rfl,hb⟩
   have B3:=Hd (X1.out.low.trans (hb.mono X1.out.low.size))
   clear hb p0 p1 u0 u1 u2 u3 u4 u5 X1
   go_wp2_with fail
   go_ret
   exact ⟨by rw [HPB.out];rfl,B3.out⟩
def dirB (d:DirT):Bool:=nameB d.1.data.toList && d.2.list.all argB
theorem dirright_any (d:DirT) (hz:∀ y,y ∈ d.2.list→sizeV y.2≤9000) (cs:List Value) (w:World) (B:Nat) (hB:B≤w.heap.size) (hT:TS w (fun b=>b < B) (encD d) cs) (hw:Laid5 w) :
   Calls Tryz.prog 196 #[.agg #[.int .i64 0,.bool true],.agg cs.toArray] w fun e w'=>e=.returned (.bool (dirB d))∧Below w.heap.size w w':=by
 obtain ⟨Ad,kd,rfl,hn,hl,hR⟩:=dir_cells hT
 rw [encM_list] at hR
 have hlen:d.2.list.length=d.2.len:=VM.list_len d.2
 have NA:=Hd (fun (wx:World)=>name_any d.1 wx hn)
 have AL:=Hd (fun (wx:World) (h:Below w.heap.size w wx)=>allMem_any 220 (.agg #[.int .i64 0,.bool true]) d.2.list Ad kd argB wx B (Nat.le_trans hB h.size) (by omega) (RowT.below (h.mono hB) hR) (Go.Proofs.enters_of Tryz.func220 (by kernel_rfl) rfl) (fun x hx cs W hb hT'=>by
   obtain ⟨A3,k3,A4,k4,rfl,h1,h2⟩:=pr_cells hT'
   exact arg_any x.1 x.2 h1 (hz x hx) A3 A4 k3 k4 W B (Nat.le_trans (Nat.le_trans hB h.size) hb.size) h2 ((hw.below h).below hb)))
 rw [hlen] at AL
 have X1:=Hd (B2.start w #[.int .i64 0,.bool true] #[.string d.1,.slice Ad d.2.len kd] 185 83)
 have HPB:Hid (dirB d=(nameB d.1.data.toList && d.2.list.all argB)):=Hd rfl
 have hmf:∀ (fn:Fn) (first cap:Array Value) (w:World),(Instr.makeFunc fn first cap).run Tryz.prog w=.ok (.func fn first cap) w:=fun _ _ _ _=>rfl
 clear hB hT hw hR hlen hz
 go_enter Tryz.func196,Tryz.ntmps196
 go_upto_region 1 with fail
 generalize (w.alloc (.cells #[.int .i64 0,.bool true] 185)).alloc (.cells #[.string d.1,.slice Ad d.2.len kd] 83)=w1 at X1 ⊢
 generalize w.heap.size+1=gv at X1 ⊢
 obtain ⟨p0,p1⟩:=two_boxS X1.out.b0
 obtain ⟨u0,u1⟩:=two_boxS X1.out.b1
 obtain ⟨nb,hnb⟩:∃ b,nameB d.1.data.toList=b:=⟨_,rfl⟩
 rw [hnb] at NA HPB
 clear hnb
 go_wp2_with fail
 refine (NA.out _).mono ?_
 rintro e w2 ⟨rfl,rfl⟩
 cases nb with
 | false =>
   go_wp2_with fail
   go_ret
   exact ⟨by rw [HPB.out];rfl,X1.out.low⟩
 | true =>
   go_wp2_with fail
   refine (AL.out _ X1.out.low).mono ?_
   rintro e w3 ⟨rfl,hb⟩
   have B3:=Hd (X1.out.low.trans (hb.mono X1.out.low.size))
   clear hb p0 p1 u0 u1 X1
   go_wp2_with fail
   go_ret
   exact ⟨by rw [HPB.out];rfl,B3.out⟩
end Go.Proofs.YtaekdfcpbepepaaGreatDoor
