/- syntax.RightParam. (gen_right2.py wrote it.) -/
import Derived.Test.YtaekdfcpbepepaaGreatDoorQbz
import Derived.Test.YtaekdfcpbepepaaGreatDoorQb22
import Derived.Test.YtaekdfcpbepepaaGreatDoorQb23
set_option maxRecDepth 100000
set_option maxHeartbeats 8000000
namespace Go.Proofs.YtaekdfcpbepepaaGreatDoor
open List renaming getElem_toArray → zgA, getElem_cons_zero → zgB, getElem_cons_succ → zgC
open Go.RowKit
def QI2 (wz:World) (cs:List (Nat × Nat × Value)) (W:World):Prop:=(∀ p,p ∈ cs→W.cell? ⟨p.1,p.2.1,none⟩=some p.2.2)∧Below wz.heap.size wz W
theorem QI2.next {wz W W':World} {cs:List (Nat × Nat × Value)} (h:QI2 wz cs W) (hl:∀ p,p ∈ cs→p.1 < wz.heap.size) (hb:Below W.heap.size W W'):QI2 wz cs W':=
 ⟨fun p hp=>(hb.cell (p:=⟨p.1,p.2.1,none⟩) (Nat.lt_of_lt_of_le (hl p hp) h.2.size)).trans (h.1 p hp),h.2.trans (hb.mono h.2.size)⟩
theorem leaf_tsS {w:World} {P:Nat→Prop} (k n:Int) (s:ByteArray) (hs:s.size≤9223372036854775807):TS w P (encV (.mk k n s .nil .nil)) [.int .i64 k,.int .i64 n,.string s,.slice none 0 0,.slice none 0 0]:=
 vp_ts _ _ _ _ _ _ (by unfold VP;exact ⟨rfl,rfl,rfl,hs,⟨none,0,rfl,by simp [VL.len],by unfold LP;trivial⟩,none,0,rfl,by simp [VM.len],by unfold MP;trivial⟩)
theorem qpp_written {wz W:World} {a1 b1 a2 b2 a3 b3 a4 b4 a5 b5 a6 b6 a7 b7 a8 b8 a9 b9 a10 b10:Nat} {v1 v2 v3 v4 v5 v6 v7 v8 v9 v10:Value} (h:QI2 wz [(a1,b1,v1),(a2,b2,v2),(a3,b3,v3),(a4,b4,v4),(a5,b5,v5),(a6,b6,v6),(a7,b7,v7),(a8,b8,v8),(a9,b9,v9),(a10,b10,v10)] W) :
  W.cell? ⟨a1,b1,none⟩=some v1∧W.cell? ⟨a2,b2,none⟩=some v2∧W.cell? ⟨a3,b3,none⟩=some v3∧W.cell? ⟨a4,b4,none⟩=some v4∧W.cell? ⟨a5,b5,none⟩=some v5∧W.cell? ⟨a6,b6,none⟩=some v6∧W.cell? ⟨a7,b7,none⟩=some v7∧W.cell? ⟨a8,b8,none⟩=some v8∧W.cell? ⟨a9,b9,none⟩=some v9∧W.cell? ⟨a10,b10,none⟩=some v10∧QI2 wz [(a1,b1,v1),(a2,b2,v2),(a3,b3,v3),(a4,b4,v4),(a5,b5,v5),(a6,b6,v6),(a7,b7,v7),(a8,b8,v8),(a9,b9,v9),(a10,b10,v10)] W:=
 ⟨h.1 (a1,b1,v1) (by simp),h.1 (a2,b2,v2) (by simp),h.1 (a3,b3,v3) (by simp),h.1 (a4,b4,v4) (by simp),h.1 (a5,b5,v5) (by simp),h.1 (a6,b6,v6) (by simp),h.1 (a7,b7,v7) (by simp),h.1 (a8,b8,v8) (by simp),h.1 (a9,b9,v9) (by simp),h.1 (a10,b10,v10) (by simp),h⟩
theorem qpp_held {wz W:World} {cs:List (Nat × Nat × Value)} {p1 p2 p3 p4 p5 p6 p7 p8 p9 p10:Prop} (h:p1∧p2∧p3∧p4∧p5∧p6∧p7∧p8∧p9∧p10∧QI2 wz cs W):Below wz.heap.size wz W:=h.2.2.2.2.2.2.2.2.2.2.2
theorem qpp_last {wz W:World} {cs:List (Nat × Nat × Value)} {p1 p2 p3 p4 p5 p6 p7 p8 p9 p10:Prop} (h:p1∧p2∧p3∧p4∧p5∧p6∧p7∧p8∧p9∧p10∧QI2 wz cs W):QI2 wz cs W:=h.2.2.2.2.2.2.2.2.2.2
def zeroVT:VT:=.mk 0 0 ⟨#[]⟩ .nil .nil
noncomputable def prmB (x:VarT):Bool:=nameB x.name.data.toList && (rightT x.tn.data.toList x.tl x.tm && (placeB x.v && (x.has || samB x.v zeroVT)))
theorem name_low (s:ByteArray) (w:World) (hs:s.size≤9223372036854775807):Calls Tryz.prog 17 #[.string s] w fun e w'=>e=.returned (.bool (nameB s.data.toList))∧Below w.heap.size w w':=
 (name_any s w hs).mono (by rintro e w' ⟨he,rfl⟩;exact ⟨he,Below.refl _ _⟩)
theorem param_right (x:VarT) (hz:sizeV x.v≤9000) (cs:List Value) (w:World) (B:Nat) (hB:B≤w.heap.size) (hT:TS w (fun b=>b < B) (encVar x) cs) (hw:Laid5 w) :
   Calls Tryz.prog 175 #[.agg cs.toArray] w fun e w'=>e=.returned (.bool (prmB x))∧Below w.heap.size w w':=by
 have hT0:=hT
 unfold encVar at hT
 simp only [TS,TP] at hT
 obtain ⟨_,_,rfl,⟨rfl,hn⟩,_,_,rfl,⟨rfl,hn2⟩,_,_,rfl,⟨rfl,_⟩,_,_,rfl,⟨rfl,_⟩,_,_,rfl,⟨rfl,_⟩,hV⟩:=hT
 obtain ⟨A3,k3,A4,k4,rfl,_⟩:=encv_cells hV
 have NA:=Hd (fun (wx:World)=>name_low x.name wx hn)
 have WR:=Hd (fun (wx:World)=>wright_any x.tn x.tl x.tm wx hn2)
 have PV:=Hd (fun (wx:World) (h:Below w.heap.size w wx)=>place_any x.v hz A3 A4 k3 k4 wx B (Nat.le_trans hB h.size) (TS.low (h.mono hB) hV) (hw.below h))
 have SM:=Hd (fun (wx:World) (h:Below w.heap.size w wx)=>live_same (w:=wx) (u:=x.v) (v:=zeroVT) ⟨_,_,_,_,_,rfl,VAt.more (Nat.le_trans hB h.size) _ _ _ _ _ _ (ts_vat (TS.low (h.mono hB) hV))⟩ ⟨.int .i64 0,.int .i64 0,.string ⟨#[]⟩,.slice none 0 0,.slice none 0 0,rfl,ts_vat (leaf_tsS 0 0 ⟨#[]⟩ (by decide))⟩)
 have HPB:Hid (prmB x=(nameB x.name.data.toList && (rightT x.tn.data.toList x.tl x.tm && (placeB x.v && (x.has || samB x.v zeroVT))))):=Hd rfl
 have B1:=Hd (dbelow_new w (.cells #[.string x.name,.string x.tn,.int .i64 x.tl,.int .i64 x.tm,.bool x.has,.int .i64 x.v.kd,.int .i64 x.v.nn,.string x.v.ss,.slice A3 x.v.ls.len k3,.slice A4 x.v.ms.len k4] 60))
 have Y1:=Hd (heap_alloc_new w (.cells #[.string x.name,.string x.tn,.int .i64 x.tl,.int .i64 x.tm,.bool x.has,.int .i64 x.v.kd,.int .i64 x.v.nn,.string x.v.ss,.slice A3 x.v.ls.len k3,.slice A4 x.v.ms.len k4] 60))
 clear hB hV hw hT0
 go_enter Tryz.func175,Tryz.ntmps175
 go_upto_region 1 with fail
 generalize w.alloc (.cells #[.string x.name,.string x.tn,.int .i64 x.tl,.int .i64 x.tm,.bool x.has,.int .i64 x.v.kd,.int .i64 x.v.nn,.string x.v.ss,.slice A3 x.v.ls.len k3,.slice A4 x.v.ms.len k4] 60)=w1 at B1 Y1 ⊢
 obtain ⟨hs,hhs⟩:∃ b,x.has=b:=⟨_,rfl⟩
 rw [hhs] at Y1 HPB
 have HE:Hid (QI2 w1 [(w.heap.size,0,(Value.string x.name)),(w.heap.size,1,(Value.string x.tn)),(w.heap.size,2,(Value.int .i64 x.tl)),(w.heap.size,3,(Value.int .i64 x.tm)),(w.heap.size,4,(Value.bool hs)),(w.heap.size,5,(Value.int .i64 x.v.kd)),(w.heap.size,6,(Value.int .i64 x.v.nn)),(w.heap.size,7,(Value.string x.v.ss)),(w.heap.size,8,(Value.slice A3 x.v.ls.len k3)),(w.heap.size,9,(Value.slice A4 x.v.ms.len k4))] w1):=Hd (by
   obtain ⟨⟨y0,y1,y2,y3,y4,y5,y6,y7,y8,y9⟩,_⟩:=ten_cells Y1.out
   refine ⟨fun p hp=>?_,Below.refl _ _⟩
   simp only [List.mem_cons,List.not_mem_nil,or_false] at hp
   rcases hp with rfl|rfl|rfl|rfl|rfl|rfl|rfl|rfl|rfl|rfl<;>assumption)
 have HL:Hid (∀ p,p ∈ [(w.heap.size,0,(Value.string x.name)),(w.heap.size,1,(Value.string x.tn)),(w.heap.size,2,(Value.int .i64 x.tl)),(w.heap.size,3,(Value.int .i64 x.tm)),(w.heap.size,4,(Value.bool hs)),(w.heap.size,5,(Value.int .i64 x.v.kd)),(w.heap.size,6,(Value.int .i64 x.v.nn)),(w.heap.size,7,(Value.string x.v.ss)),(w.heap.size,8,(Value.slice A3 x.v.ls.len k3)),(w.heap.size,9,(Value.slice A4 x.v.ms.len k4))]→p.1 < w1.heap.size):=Hd (fun p hp=>by
   have l1:=(Array.getElem?_eq_some_iff.1 Y1.out).1
   simp only [List.mem_cons,List.not_mem_nil,or_false] at hp
   rcases hp with rfl|rfl|rfl|rfl|rfl|rfl|rfl|rfl|rfl|rfl<;>assumption)
 clear Y1
 obtain ⟨nb,hnb⟩:∃ b,nameB x.name.data.toList=b:=⟨_,rfl⟩
 obtain ⟨rt,hrt⟩:∃ b,rightT x.tn.data.toList x.tl x.tm=b:=⟨_,rfl⟩
 obtain ⟨pb,hpb⟩:∃ b,placeB x.v=b:=⟨_,rfl⟩
 rw [hnb] at NA HPB
 rw [hrt] at WR HPB
 rw [hpb] at PV HPB
 clear hnb hrt hpb hhs
 cases nb with
 | false =>
   refine wp_region_held_drew (S:=(fun w'=>w'.cell? ⟨w.heap.size,0,none⟩=some (Value.string x.name)∧w'.cell? ⟨w.heap.size,1,none⟩=some (Value.string x.tn)∧w'.cell? ⟨w.heap.size,2,none⟩=some (Value.int .i64 x.tl)∧w'.cell? ⟨w.heap.size,3,none⟩=some (Value.int .i64 x.tm)∧w'.cell? ⟨w.heap.size,4,none⟩=some (Value.bool hs)∧w'.cell? ⟨w.heap.size,5,none⟩=some (Value.int .i64 x.v.kd)∧w'.cell? ⟨w.heap.size,6,none⟩=some (Value.int .i64 x.v.nn)∧w'.cell? ⟨w.heap.size,7,none⟩=some (Value.string x.v.ss)∧w'.cell? ⟨w.heap.size,8,none⟩=some (Value.slice A3 x.v.ls.len k3)∧w'.cell? ⟨w.heap.size,9,none⟩=some (Value.slice A4 x.v.ms.len k4)∧QI2 w1 [(w.heap.size,0,(Value.string x.name)),(w.heap.size,1,(Value.string x.tn)),(w.heap.size,2,(Value.int .i64 x.tl)),(w.heap.size,3,(Value.int .i64 x.tm)),(w.heap.size,4,(Value.bool hs)),(w.heap.size,5,(Value.int .i64 x.v.kd)),(w.heap.size,6,(Value.int .i64 x.v.nn)),(w.heap.size,7,(Value.string x.v.ss)),(w.heap.size,8,(Value.slice A3 x.v.ls.len k3)),(w.heap.size,9,(Value.slice A4 x.v.ms.len k4))] w')) (by kernel_rfl) (qpp_written (HE.out.next HL.out (Below.drew (Below.refl _ _)))) (fun hHeld=>?_)
   refine ztk 0 (v:=?_) ?_ (by assumption) ?_
   rotate_left
   · (intro w hSw;(try dsimp only at hSw);go_simp;try with_reducible rfl)
   try simp only [Act.put,zgA,zgB,stT,stZ,stS]
   refine ztk 1 (v:=?_) ?_ (by assumption) ?_
   rotate_left
   · (intro w hSw;(try dsimp only at hSw);go_simp;try with_reducible rfl)
   try simp only [Act.put,zgA,zgB,zgC,stT,stZ,stS]
   refine wpAnyH_ready (rs:=[2]) (by kernel_rfl) (by simp) ?_
   refine AllReadyH.cons (o:=_) rfl (fun K hK=>?_) AllReadyH.nil
   go_simp
   refine (NA.out _).mono ?_
   rintro e w' ⟨rfl,hb⟩
   have HBN:=Hd hb
   go_wp2_with fail
   refine hK.out _ _ (qpp_written (QI2.next (qpp_last (by assumption)) HL.out HBN.out)) (fun hHeld=>?_)
   clear hK K
   try simp only [Act.put,zgA,zgB,zgC,stT,stZ,stS]
   refine ztk 3 (v:=?_) ?_ (by assumption) ?_
   rotate_left
   · (intro w hSw;(try dsimp only at hSw);go_simp;try with_reducible rfl)
   try simp only [Act.put,zgA,zgB,zgC,stT,stZ,stS]
   refine ztu 4 (by assumption) ?_
   try simp only [Act.put,zgA,zgB,zgC,stT,stZ,stS]
   refine ztu 5 (by assumption) ?_
   try simp only [Act.put,zgA,zgB,zgC,stT,stZ,stS]
   refine ztu 6 (by assumption) ?_
   try simp only [Act.put,zgA,zgB,zgC,stT,stZ,stS]
   refine ztk 7 (v:=?_) ?_ (by assumption) ?_
   rotate_left
   · (intro w hSw;(try dsimp only at hSw);go_simp;try with_reducible rfl)
   try simp only [Act.put,zgA,zgB,zgC,stT,stZ,stS]
   refine ztk 8 (v:=?_) ?_ (by assumption) ?_
   rotate_left
   · (intro w hSw;(try dsimp only at hSw);go_simp;try with_reducible rfl)
   try simp only [Act.put,zgA,zgB,zgC,stT,stZ,stS]
   refine ztu 9 (by assumption) ?_
   try simp only [Act.put,zgA,zgB,zgC,stT,stZ,stS]
   refine ztu 10 (by assumption) ?_
   try simp only [Act.put,zgA,zgB,zgC,stT,stZ,stS]
   refine ztu 11 (by assumption) ?_
   try simp only [Act.put,zgA,zgB,zgC,stT,stZ,stS]
   refine ztu 12 (by assumption) ?_
   try simp only [Act.put,zgA,zgB,zgC,stT,stZ,stS]
   refine ztk 13 (v:=?_) ?_ (by assumption) ?_
   rotate_left
   · (intro w hSw;(try dsimp only at hSw);go_simp;try with_reducible rfl)
   try simp only [Act.put,zgA,zgB,zgC,stT,stZ,stS]
   refine ztk 14 (v:=?_) ?_ (by assumption) ?_
   rotate_left
   · (intro w hSw;(try dsimp only at hSw);go_simp;try with_reducible rfl)
   try simp only [Act.put,zgA,zgB,zgC,stT,stZ,stS]
   refine ztu 15 (by assumption) ?_
   try simp only [Act.put,zgA,zgB,zgC,stT,stZ,stS]
   refine ztu 16 (by assumption) ?_
   try simp only [Act.put,zgA,zgB,zgC,stT,stZ,stS]
   refine ztu 17 (by assumption) ?_
   try simp only [Act.put,zgA,zgB,zgC,stT,stZ,stS]
   refine ztu 18 (by assumption) ?_
   try simp only [Act.put,zgA,zgB,zgC,stT,stZ,stS]
   refine ztu 19 (by assumption) ?_
   try simp only [Act.put,zgA,zgB,zgC,stT,stZ,stS]
   refine ztu 20 (by assumption) ?_
   try simp only [Act.put,zgA,zgB,zgC,stT,stZ,stS]
   refine ztu 21 (by assumption) ?_
   try simp only [Act.put,zgA,zgB,zgC,stT,stZ,stS]
   refine ztu 22 (by assumption) ?_
   try simp only [Act.put,zgA,zgB,zgC,stT,stZ,stS]
   refine ztk 23 (v:=?_) ?_ (by assumption) ?_
   rotate_left
   · (intro w hSw;(try dsimp only at hSw);go_simp;try with_reducible rfl)
   try simp only [Act.put,zgA,zgB,zgC,stT,stZ,stS]
   refine ztk 24 (v:=?_) ?_ (by assumption) ?_
   rotate_left
   · (intro w hSw;(try dsimp only at hSw);go_simp;try with_reducible rfl)
   try simp only [Act.put,zgA,zgB,zgC,stT,stZ,stS]
   refine wpAnyH_done (by kernel_rfl) ?_ _
   have HD:=Hd (qpp_held hHeld)
   clear hHeld
   have B9:=Hd (B1.out.trans (HD.out.mono B1.out.size))
   clear HE HL HD B1
   go_wp2_with fail
   go_ret
   exact ⟨by rw [HPB.out];rfl,B9.out⟩
 | true =>
 cases rt with
 | false =>
   refine wp_region_held_drew (S:=(fun w'=>w'.cell? ⟨w.heap.size,0,none⟩=some (Value.string x.name)∧w'.cell? ⟨w.heap.size,1,none⟩=some (Value.string x.tn)∧w'.cell? ⟨w.heap.size,2,none⟩=some (Value.int .i64 x.tl)∧w'.cell? ⟨w.heap.size,3,none⟩=some (Value.int .i64 x.tm)∧w'.cell? ⟨w.heap.size,4,none⟩=some (Value.bool hs)∧w'.cell? ⟨w.heap.size,5,none⟩=some (Value.int .i64 x.v.kd)∧w'.cell? ⟨w.heap.size,6,none⟩=some (Value.int .i64 x.v.nn)∧w'.cell? ⟨w.heap.size,7,none⟩=some (Value.string x.v.ss)∧w'.cell? ⟨w.heap.size,8,none⟩=some (Value.slice A3 x.v.ls.len k3)∧w'.cell? ⟨w.heap.size,9,none⟩=some (Value.slice A4 x.v.ms.len k4)∧QI2 w1 [(w.heap.size,0,(Value.string x.name)),(w.heap.size,1,(Value.string x.tn)),(w.heap.size,2,(Value.int .i64 x.tl)),(w.heap.size,3,(Value.int .i64 x.tm)),(w.heap.size,4,(Value.bool hs)),(w.heap.size,5,(Value.int .i64 x.v.kd)),(w.heap.size,6,(Value.int .i64 x.v.nn)),(w.heap.size,7,(Value.string x.v.ss)),(w.heap.size,8,(Value.slice A3 x.v.ls.len k3)),(w.heap.size,9,(Value.slice A4 x.v.ms.len k4))] w')) (by kernel_rfl) (qpp_written (HE.out.next HL.out (Below.drew (Below.refl _ _)))) (fun hHeld=>?_)
   refine ztk 0 (v:=?_) ?_ (by assumption) ?_
   rotate_left
   · (intro w hSw;(try dsimp only at hSw);go_simp;try with_reducible rfl)
   try simp only [Act.put,zgA,zgB,stT,stZ,stS]
   refine ztk 1 (v:=?_) ?_ (by assumption) ?_
   rotate_left
   · (intro w hSw;(try dsimp only at hSw);go_simp;try with_reducible rfl)
   try simp only [Act.put,zgA,zgB,zgC,stT,stZ,stS]
   refine wpAnyH_ready (rs:=[2]) (by kernel_rfl) (by simp) ?_
   refine AllReadyH.cons (o:=_) rfl (fun K hK=>?_) AllReadyH.nil
   go_simp
   refine (NA.out _).mono ?_
   rintro e w' ⟨rfl,hb⟩
   have HBN:=Hd hb
   go_wp2_with fail
   refine hK.out _ _ (qpp_written (QI2.next (qpp_last (by assumption)) HL.out HBN.out)) (fun hHeld=>?_)
   clear hK K
   try simp only [Act.put,zgA,zgB,zgC,stT,stZ,stS]
   refine ztk 3 (v:=?_) ?_ (by assumption) ?_
   rotate_left
   · (intro w hSw;(try dsimp only at hSw);go_simp;try with_reducible rfl)
   try simp only [Act.put,zgA,zgB,zgC,stT,stZ,stS]
   refine ztk 4 (v:=?_) ?_ (by assumption) ?_
   rotate_left
   · (intro w hSw;(try dsimp only at hSw);go_simp;try with_reducible rfl)
   try simp only [Act.put,zgA,zgB,zgC,stT,stZ,stS]
   refine ztk 5 (v:=?_) ?_ (by assumption) ?_
   rotate_left
   · (intro w hSw;(try dsimp only at hSw);go_simp;try with_reducible rfl)
   try simp only [Act.put,zgA,zgB,zgC,stT,stZ,stS]
   refine wpAnyH_ready (rs:=[6]) (by kernel_rfl) (by simp) ?_
   refine AllReadyH.cons (o:=_) rfl (fun K hK=>?_) AllReadyH.nil
   go_simp
   refine (WR.out _).mono ?_
   rintro e w' ⟨rfl,hb⟩
   have HBN:=Hd hb
   go_wp2_with fail
   refine hK.out _ _ (qpp_written (QI2.next (qpp_last (by assumption)) HL.out HBN.out)) (fun hHeld=>?_)
   clear hK K
   try simp only [Act.put,zgA,zgB,zgC,stT,stZ,stS]
   refine ztk 7 (v:=?_) ?_ (by assumption) ?_
   rotate_left
   · (intro w hSw;(try dsimp only at hSw);go_simp;try with_reducible rfl)
   try simp only [Act.put,zgA,zgB,zgC,stT,stZ,stS]
   refine ztk 8 (v:=?_) ?_ (by assumption) ?_
   rotate_left
   · (intro w hSw;(try dsimp only at hSw);go_simp;try with_reducible rfl)
   try simp only [Act.put,zgA,zgB,zgC,stT,stZ,stS]
   refine ztu 9 (by assumption) ?_
   try simp only [Act.put,zgA,zgB,zgC,stT,stZ,stS]
   refine ztu 10 (by assumption) ?_
   try simp only [Act.put,zgA,zgB,zgC,stT,stZ,stS]
   refine ztu 11 (by assumption) ?_
   try simp only [Act.put,zgA,zgB,zgC,stT,stZ,stS]
   refine ztu 12 (by assumption) ?_
   try simp only [Act.put,zgA,zgB,zgC,stT,stZ,stS]
   refine ztk 13 (v:=?_) ?_ (by assumption) ?_
   rotate_left
   · (intro w hSw;(try dsimp only at hSw);go_simp;try with_reducible rfl)
   try simp only [Act.put,zgA,zgB,zgC,stT,stZ,stS]
   refine ztk 14 (v:=?_) ?_ (by assumption) ?_
   rotate_left
   · (intro w hSw;(try dsimp only at hSw);go_simp;try with_reducible rfl)
   try simp only [Act.put,zgA,zgB,zgC,stT,stZ,stS]
   refine ztu 15 (by assumption) ?_
   try simp only [Act.put,zgA,zgB,zgC,stT,stZ,stS]
   refine ztu 16 (by assumption) ?_
   try simp only [Act.put,zgA,zgB,zgC,stT,stZ,stS]
   refine ztu 17 (by assumption) ?_
   try simp only [Act.put,zgA,zgB,zgC,stT,stZ,stS]
   refine ztu 18 (by assumption) ?_
   try simp only [Act.put,zgA,zgB,zgC,stT,stZ,stS]
   refine ztu 19 (by assumption) ?_
   try simp only [Act.put,zgA,zgB,zgC,stT,stZ,stS]
   refine ztu 20 (by assumption) ?_
   try simp only [Act.put,zgA,zgB,zgC,stT,stZ,stS]
   refine ztu 21 (by assumption) ?_
   try simp only [Act.put,zgA,zgB,zgC,stT,stZ,stS]
   refine ztu 22 (by assumption) ?_
   try simp only [Act.put,zgA,zgB,zgC,stT,stZ,stS]
   refine ztk 23 (v:=?_) ?_ (by assumption) ?_
   rotate_left
   · (intro w hSw;(try dsimp only at hSw);go_simp;try with_reducible rfl)
   try simp only [Act.put,zgA,zgB,zgC,stT,stZ,stS]
   refine ztk 24 (v:=?_) ?_ (by assumption) ?_
   rotate_left
   · (intro w hSw;(try dsimp only at hSw);go_simp;try with_reducible rfl)
   try simp only [Act.put,zgA,zgB,zgC,stT,stZ,stS]
   refine wpAnyH_done (by kernel_rfl) ?_ _
   have HD:=Hd (qpp_held hHeld)
   clear hHeld
   have B9:=Hd (B1.out.trans (HD.out.mono B1.out.size))
   clear HE HL HD B1
   go_wp2_with fail
   go_ret
   exact ⟨by rw [HPB.out];rfl,B9.out⟩
 | true =>
 cases pb with
 | false =>
   refine wp_region_held_drew (S:=(fun w'=>w'.cell? ⟨w.heap.size,0,none⟩=some (Value.string x.name)∧w'.cell? ⟨w.heap.size,1,none⟩=some (Value.string x.tn)∧w'.cell? ⟨w.heap.size,2,none⟩=some (Value.int .i64 x.tl)∧w'.cell? ⟨w.heap.size,3,none⟩=some (Value.int .i64 x.tm)∧w'.cell? ⟨w.heap.size,4,none⟩=some (Value.bool hs)∧w'.cell? ⟨w.heap.size,5,none⟩=some (Value.int .i64 x.v.kd)∧w'.cell? ⟨w.heap.size,6,none⟩=some (Value.int .i64 x.v.nn)∧w'.cell? ⟨w.heap.size,7,none⟩=some (Value.string x.v.ss)∧w'.cell? ⟨w.heap.size,8,none⟩=some (Value.slice A3 x.v.ls.len k3)∧w'.cell? ⟨w.heap.size,9,none⟩=some (Value.slice A4 x.v.ms.len k4)∧QI2 w1 [(w.heap.size,0,(Value.string x.name)),(w.heap.size,1,(Value.string x.tn)),(w.heap.size,2,(Value.int .i64 x.tl)),(w.heap.size,3,(Value.int .i64 x.tm)),(w.heap.size,4,(Value.bool hs)),(w.heap.size,5,(Value.int .i64 x.v.kd)),(w.heap.size,6,(Value.int .i64 x.v.nn)),(w.heap.size,7,(Value.string x.v.ss)),(w.heap.size,8,(Value.slice A3 x.v.ls.len k3)),(w.heap.size,9,(Value.slice A4 x.v.ms.len k4))] w')) (by kernel_rfl) (qpp_written (HE.out.next HL.out (Below.drew (Below.refl _ _)))) (fun hHeld=>?_)
   refine ztk 0 (v:=?_) ?_ (by assumption) ?_
   rotate_left
   · (intro w hSw;(try dsimp only at hSw);go_simp;try with_reducible rfl)
   try simp only [Act.put,zgA,zgB,stT,stZ,stS]
   refine ztk 1 (v:=?_) ?_ (by assumption) ?_
   rotate_left
   · (intro w hSw;(try dsimp only at hSw);go_simp;try with_reducible rfl)
   try simp only [Act.put,zgA,zgB,zgC,stT,stZ,stS]
   refine wpAnyH_ready (rs:=[2]) (by kernel_rfl) (by simp) ?_
   refine AllReadyH.cons (o:=_) rfl (fun K hK=>?_) AllReadyH.nil
   go_simp
   refine (NA.out _).mono ?_
   rintro e w' ⟨rfl,hb⟩
   have HBN:=Hd hb
   go_wp2_with fail
   refine hK.out _ _ (qpp_written (QI2.next (qpp_last (by assumption)) HL.out HBN.out)) (fun hHeld=>?_)
   clear hK K
   try simp only [Act.put,zgA,zgB,zgC,stT,stZ,stS]
   refine ztk 3 (v:=?_) ?_ (by assumption) ?_
   rotate_left
   · (intro w hSw;(try dsimp only at hSw);go_simp;try with_reducible rfl)
   try simp only [Act.put,zgA,zgB,zgC,stT,stZ,stS]
   refine ztk 4 (v:=?_) ?_ (by assumption) ?_
   rotate_left
   · (intro w hSw;(try dsimp only at hSw);go_simp;try with_reducible rfl)
   try simp only [Act.put,zgA,zgB,zgC,stT,stZ,stS]
   refine ztk 5 (v:=?_) ?_ (by assumption) ?_
   rotate_left
   · (intro w hSw;(try dsimp only at hSw);go_simp;try with_reducible rfl)
   try simp only [Act.put,zgA,zgB,zgC,stT,stZ,stS]
   refine wpAnyH_ready (rs:=[6]) (by kernel_rfl) (by simp) ?_
   refine AllReadyH.cons (o:=_) rfl (fun K hK=>?_) AllReadyH.nil
   go_simp
   refine (WR.out _).mono ?_
   rintro e w' ⟨rfl,hb⟩
   have HBN:=Hd hb
   go_wp2_with fail
   refine hK.out _ _ (qpp_written (QI2.next (qpp_last (by assumption)) HL.out HBN.out)) (fun hHeld=>?_)
   clear hK K
   try simp only [Act.put,zgA,zgB,zgC,stT,stZ,stS]
   refine ztk 7 (v:=?_) ?_ (by assumption) ?_
   rotate_left
   · (intro w hSw;(try dsimp only at hSw);go_simp;try with_reducible rfl)
   try simp only [Act.put,zgA,zgB,zgC,stT,stZ,stS]
   refine ztk 8 (v:=?_) ?_ (by assumption) ?_
   rotate_left
   · (intro w hSw;(try dsimp only at hSw);go_simp;try with_reducible rfl)
   try simp only [Act.put,zgA,zgB,zgC,stT,stZ,stS]
   refine ztk 10 (v:=?_) ?_ (by assumption) ?_
   rotate_left
   · (intro w hSw;(try dsimp only at hSw);go_simp;try with_reducible rfl)
   try simp only [Act.put,zgA,zgB,zgC,stT,stZ,stS]
   refine ztk 11 (v:=?_) ?_ (by assumption) ?_
   rotate_left
   · (intro w hSw;(try dsimp only at hSw);go_simp;try with_reducible rfl)
   try simp only [Act.put,zgA,zgB,zgC,stT,stZ,stS]
   refine wpAnyH_ready (rs:=[9]) (by kernel_rfl) (by simp) ?_
   refine AllReadyH.cons (o:=_) rfl (fun K hK=>?_) AllReadyH.nil
   go_simp
   refine (outside_any _).mono ?_
   rintro e w' ⟨rfl,hb⟩
   have HBN:=Hd hb
   go_wp2_with fail
   refine hK.out _ _ (qpp_written (QI2.next (qpp_last (by assumption)) HL.out HBN.out)) (fun hHeld=>?_)
   clear hK K
   try simp only [Act.put,zgA,zgB,zgC,stT,stZ,stS]
   refine wpAnyH_ready (rs:=[12]) (by kernel_rfl) (by simp) ?_
   refine AllReadyH.cons (o:=_) rfl (fun K hK=>?_) AllReadyH.nil
   go_simp
   refine (PV.out _ (B1.out.trans (Below.mono (by first|exact qpp_held (by assumption)|exact Below.drew (Below.refl _ _)) B1.out.size))).mono ?_
   rintro e w' ⟨rfl,hb⟩
   have HBN:=Hd hb
   go_wp2_with fail
   refine hK.out _ _ (qpp_written (QI2.next (qpp_last (by assumption)) HL.out HBN.out)) (fun hHeld=>?_)
   clear hK K
   try simp only [Act.put,zgA,zgB,zgC,stT,stZ,stS]
   refine ztk 13 (v:=?_) ?_ (by assumption) ?_
   rotate_left
   · (intro w hSw;(try dsimp only at hSw);go_simp;try with_reducible rfl)
   try simp only [Act.put,zgA,zgB,zgC,stT,stZ,stS]
   refine ztk 14 (v:=?_) ?_ (by assumption) ?_
   rotate_left
   · (intro w hSw;(try dsimp only at hSw);go_simp;try with_reducible rfl)
   try simp only [Act.put,zgA,zgB,zgC,stT,stZ,stS]
   refine ztu 15 (by assumption) ?_
   try simp only [Act.put,zgA,zgB,zgC,stT,stZ,stS]
   refine ztu 16 (by assumption) ?_
   try simp only [Act.put,zgA,zgB,zgC,stT,stZ,stS]
   refine ztu 17 (by assumption) ?_
   try simp only [Act.put,zgA,zgB,zgC,stT,stZ,stS]
   refine ztu 18 (by assumption) ?_
   try simp only [Act.put,zgA,zgB,zgC,stT,stZ,stS]
   refine ztu 19 (by assumption) ?_
   try simp only [Act.put,zgA,zgB,zgC,stT,stZ,stS]
   refine ztu 20 (by assumption) ?_
   try simp only [Act.put,zgA,zgB,zgC,stT,stZ,stS]
   refine ztu 21 (by assumption) ?_
   try simp only [Act.put,zgA,zgB,zgC,stT,stZ,stS]
   refine ztu 22 (by assumption) ?_
   try simp only [Act.put,zgA,zgB,zgC,stT,stZ,stS]
   refine ztk 23 (v:=?_) ?_ (by assumption) ?_
   rotate_left
   · (intro w hSw;(try dsimp only at hSw);go_simp;try with_reducible rfl)
   try simp only [Act.put,zgA,zgB,zgC,stT,stZ,stS]
   refine ztk 24 (v:=?_) ?_ (by assumption) ?_
   rotate_left
   · (intro w hSw;(try dsimp only at hSw);go_simp;try with_reducible rfl)
   try simp only [Act.put,zgA,zgB,zgC,stT,stZ,stS]
   refine wpAnyH_done (by kernel_rfl) ?_ _
   have HD:=Hd (qpp_held hHeld)
   clear hHeld
   have B9:=Hd (B1.out.trans (HD.out.mono B1.out.size))
   clear HE HL HD B1
   go_wp2_with fail
   go_ret
   exact ⟨by rw [HPB.out];rfl,B9.out⟩
 | true =>
 cases hs with
 | true =>
   refine wp_region_held_drew (S:=(fun w'=>w'.cell? ⟨w.heap.size,0,none⟩=some (Value.string x.name)∧w'.cell? ⟨w.heap.size,1,none⟩=some (Value.string x.tn)∧w'.cell? ⟨w.heap.size,2,none⟩=some (Value.int .i64 x.tl)∧w'.cell? ⟨w.heap.size,3,none⟩=some (Value.int .i64 x.tm)∧w'.cell? ⟨w.heap.size,4,none⟩=some (Value.bool true)∧w'.cell? ⟨w.heap.size,5,none⟩=some (Value.int .i64 x.v.kd)∧w'.cell? ⟨w.heap.size,6,none⟩=some (Value.int .i64 x.v.nn)∧w'.cell? ⟨w.heap.size,7,none⟩=some (Value.string x.v.ss)∧w'.cell? ⟨w.heap.size,8,none⟩=some (Value.slice A3 x.v.ls.len k3)∧w'.cell? ⟨w.heap.size,9,none⟩=some (Value.slice A4 x.v.ms.len k4)∧QI2 w1 [(w.heap.size,0,(Value.string x.name)),(w.heap.size,1,(Value.string x.tn)),(w.heap.size,2,(Value.int .i64 x.tl)),(w.heap.size,3,(Value.int .i64 x.tm)),(w.heap.size,4,(Value.bool true)),(w.heap.size,5,(Value.int .i64 x.v.kd)),(w.heap.size,6,(Value.int .i64 x.v.nn)),(w.heap.size,7,(Value.string x.v.ss)),(w.heap.size,8,(Value.slice A3 x.v.ls.len k3)),(w.heap.size,9,(Value.slice A4 x.v.ms.len k4))] w')) (by kernel_rfl) (qpp_written (HE.out.next HL.out (Below.drew (Below.refl _ _)))) (fun hHeld=>?_)
   refine ztk 0 (v:=?_) ?_ (by assumption) ?_
   rotate_left
   · (intro w hSw;(try dsimp only at hSw);go_simp;try with_reducible rfl)
   try simp only [Act.put,zgA,zgB,stT,stZ,stS]
   refine ztk 1 (v:=?_) ?_ (by assumption) ?_
   rotate_left
   · (intro w hSw;(try dsimp only at hSw);go_simp;try with_reducible rfl)
   try simp only [Act.put,zgA,zgB,zgC,stT,stZ,stS]
   refine wpAnyH_ready (rs:=[2]) (by kernel_rfl) (by simp) ?_
   refine AllReadyH.cons (o:=_) rfl (fun K hK=>?_) AllReadyH.nil
   go_simp
   refine (NA.out _).mono ?_
   rintro e w' ⟨rfl,hb⟩
   have HBN:=Hd hb
   go_wp2_with fail
   refine hK.out _ _ (qpp_written (QI2.next (qpp_last (by assumption)) HL.out HBN.out)) (fun hHeld=>?_)
   clear hK K
   try simp only [Act.put,zgA,zgB,zgC,stT,stZ,stS]
   refine ztk 3 (v:=?_) ?_ (by assumption) ?_
   rotate_left
   · (intro w hSw;(try dsimp only at hSw);go_simp;try with_reducible rfl)
   try simp only [Act.put,zgA,zgB,zgC,stT,stZ,stS]
   refine ztk 4 (v:=?_) ?_ (by assumption) ?_
   rotate_left
   · (intro w hSw;(try dsimp only at hSw);go_simp;try with_reducible rfl)
   try simp only [Act.put,zgA,zgB,zgC,stT,stZ,stS]
   refine ztk 5 (v:=?_) ?_ (by assumption) ?_
   rotate_left
   · (intro w hSw;(try dsimp only at hSw);go_simp;try with_reducible rfl)
   try simp only [Act.put,zgA,zgB,zgC,stT,stZ,stS]
   refine wpAnyH_ready (rs:=[6]) (by kernel_rfl) (by simp) ?_
   refine AllReadyH.cons (o:=_) rfl (fun K hK=>?_) AllReadyH.nil
   go_simp
   refine (WR.out _).mono ?_
   rintro e w' ⟨rfl,hb⟩
   have HBN:=Hd hb
   go_wp2_with fail
   refine hK.out _ _ (qpp_written (QI2.next (qpp_last (by assumption)) HL.out HBN.out)) (fun hHeld=>?_)
   clear hK K
   try simp only [Act.put,zgA,zgB,zgC,stT,stZ,stS]
   refine ztk 7 (v:=?_) ?_ (by assumption) ?_
   rotate_left
   · (intro w hSw;(try dsimp only at hSw);go_simp;try with_reducible rfl)
   try simp only [Act.put,zgA,zgB,zgC,stT,stZ,stS]
   refine ztk 8 (v:=?_) ?_ (by assumption) ?_
   rotate_left
   · (intro w hSw;(try dsimp only at hSw);go_simp;try with_reducible rfl)
   try simp only [Act.put,zgA,zgB,zgC,stT,stZ,stS]
   refine ztk 10 (v:=?_) ?_ (by assumption) ?_
   rotate_left
   · (intro w hSw;(try dsimp only at hSw);go_simp;try with_reducible rfl)
   try simp only [Act.put,zgA,zgB,zgC,stT,stZ,stS]
   refine ztk 11 (v:=?_) ?_ (by assumption) ?_
   rotate_left
   · (intro w hSw;(try dsimp only at hSw);go_simp;try with_reducible rfl)
   try simp only [Act.put,zgA,zgB,zgC,stT,stZ,stS]
   refine wpAnyH_ready (rs:=[9]) (by kernel_rfl) (by simp) ?_
   refine AllReadyH.cons (o:=_) rfl (fun K hK=>?_) AllReadyH.nil
   go_simp
   refine (outside_any _).mono ?_
   rintro e w' ⟨rfl,hb⟩
   have HBN:=Hd hb
   go_wp2_with fail
   refine hK.out _ _ (qpp_written (QI2.next (qpp_last (by assumption)) HL.out HBN.out)) (fun hHeld=>?_)
   clear hK K
   try simp only [Act.put,zgA,zgB,zgC,stT,stZ,stS]
   refine wpAnyH_ready (rs:=[12]) (by kernel_rfl) (by simp) ?_
   refine AllReadyH.cons (o:=_) rfl (fun K hK=>?_) AllReadyH.nil
   go_simp
   refine (PV.out _ (B1.out.trans (Below.mono (by first|exact qpp_held (by assumption)|exact Below.drew (Below.refl _ _)) B1.out.size))).mono ?_
   rintro e w' ⟨rfl,hb⟩
   have HBN:=Hd hb
   go_wp2_with fail
   refine hK.out _ _ (qpp_written (QI2.next (qpp_last (by assumption)) HL.out HBN.out)) (fun hHeld=>?_)
   clear hK K
   try simp only [Act.put,zgA,zgB,zgC,stT,stZ,stS]
   refine ztk 13 (v:=?_) ?_ (by assumption) ?_
   rotate_left
   · (intro w hSw;(try dsimp only at hSw);go_simp;try with_reducible rfl)
   try simp only [Act.put,zgA,zgB,zgC,stT,stZ,stS]
   refine ztk 14 (v:=?_) ?_ (by assumption) ?_
   rotate_left
   · (intro w hSw;(try dsimp only at hSw);go_simp;try with_reducible rfl)
   try simp only [Act.put,zgA,zgB,zgC,stT,stZ,stS]
   refine ztk 15 (v:=?_) ?_ (by assumption) ?_
   rotate_left
   · (intro w hSw;(try dsimp only at hSw);go_simp;try with_reducible rfl)
   try simp only [Act.put,zgA,zgB,zgC,stT,stZ,stS]
   refine ztk 16 (v:=?_) ?_ (by assumption) ?_
   rotate_left
   · (intro w hSw;(try dsimp only at hSw);go_simp;try with_reducible rfl)
   try simp only [Act.put,zgA,zgB,zgC,stT,stZ,stS]
   refine ztk 17 (v:=?_) ?_ (by assumption) ?_
   rotate_left
   · (intro w hSw;(try dsimp only at hSw);go_simp;try with_reducible rfl)
   try simp only [Act.put,zgA,zgB,zgC,stT,stZ,stS]
   refine ztu 18 (by assumption) ?_
   try simp only [Act.put,zgA,zgB,zgC,stT,stZ,stS]
   refine ztu 19 (by assumption) ?_
   try simp only [Act.put,zgA,zgB,zgC,stT,stZ,stS]
   refine ztu 20 (by assumption) ?_
   try simp only [Act.put,zgA,zgB,zgC,stT,stZ,stS]
   refine ztu 21 (by assumption) ?_
   try simp only [Act.put,zgA,zgB,zgC,stT,stZ,stS]
   refine ztk 22 (v:=?_) ?_ (by assumption) ?_
   rotate_left
   · (intro w hSw;(try dsimp only at hSw);go_simp;try with_reducible rfl)
   try simp only [Act.put,zgA,zgB,zgC,stT,stZ,stS]
   refine ztk 23 (v:=?_) ?_ (by assumption) ?_
   rotate_left
   · (intro w hSw;(try dsimp only at hSw);go_simp;try with_reducible rfl)
   try simp only [Act.put,zgA,zgB,zgC,stT,stZ,stS]
   refine ztk 24 (v:=?_) ?_ (by assumption) ?_
   rotate_left
   · (intro w hSw;(try dsimp only at hSw);go_simp;try with_reducible rfl)
   try simp only [Act.put,zgA,zgB,zgC,stT,stZ,stS]
   refine wpAnyH_done (by kernel_rfl) ?_ _
   have HD:=Hd (qpp_held hHeld)
   clear hHeld
   have B9:=Hd (B1.out.trans (HD.out.mono B1.out.size))
   clear HE HL HD B1
   go_wp2_with fail
   go_ret
   exact ⟨by rw [HPB.out];rfl,B9.out⟩
 | false =>
   refine wp_region_held_drew (S:=(fun w'=>w'.cell? ⟨w.heap.size,0,none⟩=some (Value.string x.name)∧w'.cell? ⟨w.heap.size,1,none⟩=some (Value.string x.tn)∧w'.cell? ⟨w.heap.size,2,none⟩=some (Value.int .i64 x.tl)∧w'.cell? ⟨w.heap.size,3,none⟩=some (Value.int .i64 x.tm)∧w'.cell? ⟨w.heap.size,4,none⟩=some (Value.bool false)∧w'.cell? ⟨w.heap.size,5,none⟩=some (Value.int .i64 x.v.kd)∧w'.cell? ⟨w.heap.size,6,none⟩=some (Value.int .i64 x.v.nn)∧w'.cell? ⟨w.heap.size,7,none⟩=some (Value.string x.v.ss)∧w'.cell? ⟨w.heap.size,8,none⟩=some (Value.slice A3 x.v.ls.len k3)∧w'.cell? ⟨w.heap.size,9,none⟩=some (Value.slice A4 x.v.ms.len k4)∧QI2 w1 [(w.heap.size,0,(Value.string x.name)),(w.heap.size,1,(Value.string x.tn)),(w.heap.size,2,(Value.int .i64 x.tl)),(w.heap.size,3,(Value.int .i64 x.tm)),(w.heap.size,4,(Value.bool false)),(w.heap.size,5,(Value.int .i64 x.v.kd)),(w.heap.size,6,(Value.int .i64 x.v.nn)),(w.heap.size,7,(Value.string x.v.ss)),(w.heap.size,8,(Value.slice A3 x.v.ls.len k3)),(w.heap.size,9,(Value.slice A4 x.v.ms.len k4))] w')) (by kernel_rfl) (qpp_written (HE.out.next HL.out (Below.drew (Below.refl _ _)))) (fun hHeld=>?_)
   refine ztk 0 (v:=?_) ?_ (by assumption) ?_
   rotate_left
   · (intro w hSw;(try dsimp only at hSw);go_simp;try with_reducible rfl)
   try simp only [Act.put,zgA,zgB,stT,stZ,stS]
   refine ztk 1 (v:=?_) ?_ (by assumption) ?_
   rotate_left
   · (intro w hSw;(try dsimp only at hSw);go_simp;try with_reducible rfl)
   try simp only [Act.put,zgA,zgB,zgC,stT,stZ,stS]
   refine wpAnyH_ready (rs:=[2]) (by kernel_rfl) (by simp) ?_
   refine AllReadyH.cons (o:=_) rfl (fun K hK=>?_) AllReadyH.nil
   go_simp
   refine (NA.out _).mono ?_
   rintro e w' ⟨rfl,hb⟩
   have HBN:=Hd hb
   go_wp2_with fail
   refine hK.out _ _ (qpp_written (QI2.next (qpp_last (by assumption)) HL.out HBN.out)) (fun hHeld=>?_)
   clear hK K
   try simp only [Act.put,zgA,zgB,zgC,stT,stZ,stS]
   refine ztk 3 (v:=?_) ?_ (by assumption) ?_
   rotate_left
   · (intro w hSw;(try dsimp only at hSw);go_simp;try with_reducible rfl)
   try simp only [Act.put,zgA,zgB,zgC,stT,stZ,stS]
   refine ztk 4 (v:=?_) ?_ (by assumption) ?_
   rotate_left
   · (intro w hSw;(try dsimp only at hSw);go_simp;try with_reducible rfl)
   try simp only [Act.put,zgA,zgB,zgC,stT,stZ,stS]
   refine ztk 5 (v:=?_) ?_ (by assumption) ?_
   rotate_left
   · (intro w hSw;(try dsimp only at hSw);go_simp;try with_reducible rfl)
   try simp only [Act.put,zgA,zgB,zgC,stT,stZ,stS]
   refine wpAnyH_ready (rs:=[6]) (by kernel_rfl) (by simp) ?_
   refine AllReadyH.cons (o:=_) rfl (fun K hK=>?_) AllReadyH.nil
   go_simp
   refine (WR.out _).mono ?_
   rintro e w' ⟨rfl,hb⟩
   have HBN:=Hd hb
   go_wp2_with fail
   refine hK.out _ _ (qpp_written (QI2.next (qpp_last (by assumption)) HL.out HBN.out)) (fun hHeld=>?_)
   clear hK K
   try simp only [Act.put,zgA,zgB,zgC,stT,stZ,stS]
   refine ztk 7 (v:=?_) ?_ (by assumption) ?_
   rotate_left
   · (intro w hSw;(try dsimp only at hSw);go_simp;try with_reducible rfl)
   try simp only [Act.put,zgA,zgB,zgC,stT,stZ,stS]
   refine ztk 8 (v:=?_) ?_ (by assumption) ?_
   rotate_left
   · (intro w hSw;(try dsimp only at hSw);go_simp;try with_reducible rfl)
   try simp only [Act.put,zgA,zgB,zgC,stT,stZ,stS]
   refine ztk 10 (v:=?_) ?_ (by assumption) ?_
   rotate_left
   · (intro w hSw;(try dsimp only at hSw);go_simp;try with_reducible rfl)
   try simp only [Act.put,zgA,zgB,zgC,stT,stZ,stS]
   refine ztk 11 (v:=?_) ?_ (by assumption) ?_
   rotate_left
   · (intro w hSw;(try dsimp only at hSw);go_simp;try with_reducible rfl)
   try simp only [Act.put,zgA,zgB,zgC,stT,stZ,stS]
   refine wpAnyH_ready (rs:=[9]) (by kernel_rfl) (by simp) ?_
   refine AllReadyH.cons (o:=_) rfl (fun K hK=>?_) AllReadyH.nil
   go_simp
   refine (outside_any _).mono ?_
   rintro e w' ⟨rfl,hb⟩
   have HBN:=Hd hb
   go_wp2_with fail
   refine hK.out _ _ (qpp_written (QI2.next (qpp_last (by assumption)) HL.out HBN.out)) (fun hHeld=>?_)
   clear hK K
   try simp only [Act.put,zgA,zgB,zgC,stT,stZ,stS]
   refine wpAnyH_ready (rs:=[12]) (by kernel_rfl) (by simp) ?_
   refine AllReadyH.cons (o:=_) rfl (fun K hK=>?_) AllReadyH.nil
   go_simp
   refine (PV.out _ (B1.out.trans (Below.mono (by first|exact qpp_held (by assumption)|exact Below.drew (Below.refl _ _)) B1.out.size))).mono ?_
   rintro e w' ⟨rfl,hb⟩
   have HBN:=Hd hb
   go_wp2_with fail
   refine hK.out _ _ (qpp_written (QI2.next (qpp_last (by assumption)) HL.out HBN.out)) (fun hHeld=>?_)
   clear hK K
   try simp only [Act.put,zgA,zgB,zgC,stT,stZ,stS]
   refine ztk 13 (v:=?_) ?_ (by assumption) ?_
   rotate_left
   · (intro w hSw;(try dsimp only at hSw);go_simp;try with_reducible rfl)
   try simp only [Act.put,zgA,zgB,zgC,stT,stZ,stS]
   refine ztk 14 (v:=?_) ?_ (by assumption) ?_
   rotate_left
   · (intro w hSw;(try dsimp only at hSw);go_simp;try with_reducible rfl)
   try simp only [Act.put,zgA,zgB,zgC,stT,stZ,stS]
   refine ztk 15 (v:=?_) ?_ (by assumption) ?_
   rotate_left
   · (intro w hSw;(try dsimp only at hSw);go_simp;try with_reducible rfl)
   try simp only [Act.put,zgA,zgB,zgC,stT,stZ,stS]
   refine ztk 16 (v:=?_) ?_ (by assumption) ?_
   rotate_left
   · (intro w hSw;(try dsimp only at hSw);go_simp;try with_reducible rfl)
   try simp only [Act.put,zgA,zgB,zgC,stT,stZ,stS]
   refine ztk 17 (v:=?_) ?_ (by assumption) ?_
   rotate_left
   · (intro w hSw;(try dsimp only at hSw);go_simp;try with_reducible rfl)
   try simp only [Act.put,zgA,zgB,zgC,stT,stZ,stS]
   refine ztk 18 (v:=?_) ?_ (by assumption) ?_
   rotate_left
   · (intro w hSw;(try dsimp only at hSw);go_simp;try with_reducible rfl)
   try simp only [Act.put,zgA,zgB,zgC,stT,stZ,stS]
   refine ztk 19 (v:=?_) ?_ (by assumption) ?_
   rotate_left
   · (intro w hSw;(try dsimp only at hSw);go_simp;try with_reducible rfl)
   try simp only [Act.put,zgA,zgB,zgC,stT,stZ,stS]
   refine ztk 20 (v:=?_) ?_ (by assumption) ?_
   rotate_left
   · (intro w hSw;(try dsimp only at hSw);go_simp;try with_reducible rfl)
   try simp only [Act.put,zgA,zgB,zgC,stT,stZ,stS]
   refine wpAnyH_ready (rs:=[21]) (by kernel_rfl) (by simp) ?_
   refine AllReadyH.cons (o:=_) rfl (fun K hK=>?_) AllReadyH.nil
   go_simp
   refine (SM.out _ (B1.out.trans (Below.mono (by first|exact qpp_held (by assumption)|exact Below.drew (Below.refl _ _)) B1.out.size))).mono ?_
   rintro e w' ⟨rfl,hb⟩
   have HBN:=Hd hb
   go_wp2_with fail
   refine hK.out _ _ (qpp_written (QI2.next (qpp_last (by assumption)) HL.out HBN.out)) (fun hHeld=>?_)
   clear hK K
   try simp only [Act.put,zgA,zgB,zgC,stT,stZ,stS]
   refine ztk 22 (v:=?_) ?_ (by assumption) ?_
   rotate_left
   · (intro w hSw;(try dsimp only at hSw);go_simp;try with_reducible rfl)
   try simp only [Act.put,zgA,zgB,zgC,stT,stZ,stS]
   refine ztk 23 (v:=?_) ?_ (by assumption) ?_
   rotate_left
   · (intro w hSw;(try dsimp only at hSw);go_simp;try with_reducible rfl)
   try simp only [Act.put,zgA,zgB,zgC,stT,stZ,stS]
   refine ztk 24 (v:=?_) ?_ (by assumption) ?_
   rotate_left
   · (intro w hSw;(try dsimp only at hSw);go_simp;try with_reducible rfl)
   try simp only [Act.put,zgA,zgB,zgC,stT,stZ,stS]
   refine wpAnyH_done (by kernel_rfl) ?_ _
   have HD:=Hd (qpp_held hHeld)
   clear hHeld
   have B9:=Hd (B1.out.trans (HD.out.mono B1.out.size))
   clear HE HL HD B1
   go_wp2_with fail
   go_ret
   exact ⟨by rw [HPB.out];rfl,B9.out⟩
end Go.Proofs.YtaekdfcpbepepaaGreatDoor
