/- sdl's rightField. (gen_right3.py wrote it.) -/
import Derived.Test.YtaekdfcpbepepaaGreatDoorQbz
import Derived.Test.YtaekdfcpbepepaaGreatDoorQb24
set_option maxRecDepth 100000
set_option maxHeartbeats 8000000
namespace Go.Proofs.YtaekdfcpbepepaaGreatDoor
open List renaming getElem_toArray → zgA, getElem_cons_zero → zgB, getElem_cons_succ → zgC
open Go.RowKit
def QI3 (wz:World) (cs:List (Nat × Nat × Value)) (W:World):Prop:=(∀ p,p ∈ cs→W.cell? ⟨p.1,p.2.1,none⟩=some p.2.2)∧Below wz.heap.size wz W
theorem QI3.next {wz W W':World} {cs:List (Nat × Nat × Value)} (h:QI3 wz cs W) (hl:∀ p,p ∈ cs→p.1 < wz.heap.size) (hb:Below W.heap.size W W'):QI3 wz cs W':=
 ⟨fun p hp=>(hb.cell (p:=⟨p.1,p.2.1,none⟩) (Nat.lt_of_lt_of_le (hl p hp) h.2.size)).trans (h.1 p hp),h.2.trans (hb.mono h.2.size)⟩
theorem qff_written {wz W:World} {a1 b1 a2 b2 a3 b3 a4 b4 a5 b5 a6 b6:Nat} {v1 v2 v3 v4 v5 v6:Value} (h:QI3 wz [(a1,b1,v1),(a2,b2,v2),(a3,b3,v3),(a4,b4,v4),(a5,b5,v5),(a6,b6,v6)] W) :
  W.cell? ⟨a1,b1,none⟩=some v1∧W.cell? ⟨a2,b2,none⟩=some v2∧W.cell? ⟨a3,b3,none⟩=some v3∧W.cell? ⟨a4,b4,none⟩=some v4∧W.cell? ⟨a5,b5,none⟩=some v5∧W.cell? ⟨a6,b6,none⟩=some v6∧QI3 wz [(a1,b1,v1),(a2,b2,v2),(a3,b3,v3),(a4,b4,v4),(a5,b5,v5),(a6,b6,v6)] W:=
 ⟨h.1 (a1,b1,v1) (by simp),h.1 (a2,b2,v2) (by simp),h.1 (a3,b3,v3) (by simp),h.1 (a4,b4,v4) (by simp),h.1 (a5,b5,v5) (by simp),h.1 (a6,b6,v6) (by simp),h⟩
theorem qff_held {wz W:World} {cs:List (Nat × Nat × Value)} {p1 p2 p3 p4 p5 p6:Prop} (h:p1∧p2∧p3∧p4∧p5∧p6∧QI3 wz cs W):Below wz.heap.size wz W:=h.2.2.2.2.2.2.2
theorem qff_last {wz W:World} {cs:List (Nat × Nat × Value)} {p1 p2 p3 p4 p5 p6:Prop} (h:p1∧p2∧p3∧p4∧p5∧p6∧QI3 wz cs W):QI3 wz cs W:=h.2.2.2.2.2.2
noncomputable def fldB (x:FieldT):Bool:=nameB x.name.data.toList && (x.params.all prmB && (rightT x.tn.data.toList x.tl x.tm && x.dirs.all dirB))
def ModF (x:FieldT):Prop:=(∀ y,y ∈ x.params→sizeV y.v≤9000)∧∀ d,d ∈ x.dirs→∀ y,y ∈ d.2.list→sizeV y.2≤9000
def ModD (x:DefnT):Prop:=(∀ y,y ∈ x.params→sizeV y.v≤9000)∧∀ f,f ∈ x.fields→ModF f
def ModS (S:SchT):Prop:=∀ d,d ∈ S.defs→ModD d
theorem field_right (x:FieldT) (hz:ModF x) (cs:List Value) (w:World) (B:Nat) (hB:B≤w.heap.size) (hT:TS w (fun b=>b < B) (encField x) cs) (hw:Laid5 w) :
   Calls Tryz.prog 171 #[.agg cs.toArray] w fun e w'=>e=.returned (.bool (fldB x))∧Below w.heap.size w w':=by
 obtain ⟨Ap,kp,Ad,kd,rfl,⟨hn,hn2⟩,⟨hpl,hP⟩,hdl,hD⟩:=fld_cells hT
 have NA:=Hd (fun (wx:World)=>name_low x.name wx hn)
 have WR:=Hd (fun (wx:World)=>wright_any x.tn x.tl x.tm wx hn2)
 have AP:=Hd (fun (wx:World) (h:Below w.heap.size w wx)=>allPar_any 175 x.params Ap kp prmB wx B (Nat.le_trans hB h.size) hpl (RowT.below (h.mono hB) hP) (Go.Proofs.enters_of Tryz.func175 (by kernel_rfl) rfl) (fun y hy cs W hb hT'=>param_right y (hz.1 y hy) cs W B (Nat.le_trans (Nat.le_trans hB h.size) hb.size) hT' ((hw.below h).below hb)))
 have AD:=Hd (fun (wx:World) (h:Below w.heap.size w wx)=>allDir_any 196 (.agg #[.int .i64 0,.bool true]) x.dirs Ad kd dirB wx B (Nat.le_trans hB h.size) hdl (RowT.below (h.mono hB) hD) (Go.Proofs.enters_of Tryz.func196 (by kernel_rfl) rfl) (fun y hy cs W hb hT'=>dirright_any y (hz.2 y hy) cs W B (Nat.le_trans (Nat.le_trans hB h.size) hb.size) hT' ((hw.below h).below hb)))
 have HPB:Hid (fldB x=(nameB x.name.data.toList && (x.params.all prmB && (rightT x.tn.data.toList x.tl x.tm && x.dirs.all dirB)))):=Hd rfl
 have hmf:∀ (fn:Fn) (first cap:Array Value) (w:World),(Instr.makeFunc fn first cap).run Tryz.prog w=.ok (.func fn first cap) w:=fun _ _ _ _=>rfl
 have B1:=Hd (dbelow_new w (.cells #[.string x.name,.slice Ap x.params.length kp,.string x.tn,.int .i64 x.tl,.int .i64 x.tm,.slice Ad x.dirs.length kd] 46))
 have Y1:=Hd (heap_alloc_new w (.cells #[.string x.name,.slice Ap x.params.length kp,.string x.tn,.int .i64 x.tl,.int .i64 x.tm,.slice Ad x.dirs.length kd] 46))
 clear hB hT hw hz hP hD
 go_enter Tryz.func171,Tryz.ntmps171
 go_upto_region 1 with fail
 generalize w.alloc (.cells #[.string x.name,.slice Ap x.params.length kp,.string x.tn,.int .i64 x.tl,.int .i64 x.tm,.slice Ad x.dirs.length kd] 46)=w1 at B1 Y1 ⊢
 have HE:Hid (QI3 w1 [(w.heap.size,0,(Value.string x.name)),(w.heap.size,1,(Value.slice Ap x.params.length kp)),(w.heap.size,2,(Value.string x.tn)),(w.heap.size,3,(Value.int .i64 x.tl)),(w.heap.size,4,(Value.int .i64 x.tm)),(w.heap.size,5,(Value.slice Ad x.dirs.length kd))] w1):=Hd (by
   obtain ⟨⟨y0,y1,y2,y3,y4,y5⟩,_⟩:=six_cells Y1.out
   refine ⟨fun p hp=>?_,Below.refl _ _⟩
   simp only [List.mem_cons,List.not_mem_nil,or_false] at hp
   rcases hp with rfl|rfl|rfl|rfl|rfl|rfl<;>assumption)
 have HL:Hid (∀ p,p ∈ [(w.heap.size,0,(Value.string x.name)),(w.heap.size,1,(Value.slice Ap x.params.length kp)),(w.heap.size,2,(Value.string x.tn)),(w.heap.size,3,(Value.int .i64 x.tl)),(w.heap.size,4,(Value.int .i64 x.tm)),(w.heap.size,5,(Value.slice Ad x.dirs.length kd))]→p.1 < w1.heap.size):=Hd (fun p hp=>by
   have l1:=(Array.getElem?_eq_some_iff.1 Y1.out).1
   simp only [List.mem_cons,List.not_mem_nil,or_false] at hp
   rcases hp with rfl|rfl|rfl|rfl|rfl|rfl<;>assumption)
 clear Y1
 obtain ⟨nb,hnb⟩:∃ b,nameB x.name.data.toList=b:=⟨_,rfl⟩
 obtain ⟨pb,hpb⟩:∃ b,x.params.all prmB=b:=⟨_,rfl⟩
 obtain ⟨rt,hrt⟩:∃ b,rightT x.tn.data.toList x.tl x.tm=b:=⟨_,rfl⟩
 rw [hnb] at NA HPB
 rw [hrt] at WR HPB
 rw [hpb] at AP HPB
 clear hnb hrt hpb
 cases nb with
 | false =>
   refine wp_region_held_drew (S:=(fun w'=>w'.cell? ⟨w.heap.size,0,none⟩=some (Value.string x.name)∧w'.cell? ⟨w.heap.size,1,none⟩=some (Value.slice Ap x.params.length kp)∧w'.cell? ⟨w.heap.size,2,none⟩=some (Value.string x.tn)∧w'.cell? ⟨w.heap.size,3,none⟩=some (Value.int .i64 x.tl)∧w'.cell? ⟨w.heap.size,4,none⟩=some (Value.int .i64 x.tm)∧w'.cell? ⟨w.heap.size,5,none⟩=some (Value.slice Ad x.dirs.length kd)∧QI3 w1 [(w.heap.size,0,(Value.string x.name)),(w.heap.size,1,(Value.slice Ap x.params.length kp)),(w.heap.size,2,(Value.string x.tn)),(w.heap.size,3,(Value.int .i64 x.tl)),(w.heap.size,4,(Value.int .i64 x.tm)),(w.heap.size,5,(Value.slice Ad x.dirs.length kd))] w')) (by kernel_rfl) (qff_written (HE.out.next HL.out (Below.drew (Below.refl _ _)))) (fun hHeld=>?_)
   refine ztk 0 (v:=?_) ?_ (by assumption) ?_
   rotate_left
   · (intro w hSw;(try dsimp only at hSw);go_simp;try with_reducible rfl)
   try simp only [Act.put,zgA,zgB,stT,stZ,stS]
   refine ztk 1 (v:=?_) ?_ (by assumption) ?_
   rotate_left
   · (intro w hSw;(try dsimp only at hSw);go_simp;try with_reducible rfl)
   try simp only [Act.put,zgA,zgB,zgC,stT,stZ,stS]
   refine wpAnyH_ready (rs:=[2]) (by kernel_rfl) (by simp) ?_
   refine AllReadyH.cons (o:=_) rfl (fun K hK=>?_) AllReadyH.nil
   go_simp
   refine (NA.out _).mono ?_
   rintro e w' ⟨rfl,hb⟩
   have HBN:=Hd hb
   go_wp2_with fail
   refine hK.out _ _ (qff_written (QI3.next (qff_last (by assumption)) HL.out HBN.out)) (fun hHeld=>?_)
   clear hK K
   try simp only [Act.put,zgA,zgB,zgC,stT,stZ,stS]
   refine ztk 3 (v:=?_) ?_ (by assumption) ?_
   rotate_left
   · (intro w hSw;(try dsimp only at hSw);go_simp;try with_reducible rfl)
   try simp only [Act.put,zgA,zgB,zgC,stT,stZ,stS]
   refine ztu 4 (by assumption) ?_
   try simp only [Act.put,zgA,zgB,zgC,stT,stZ,stS]
   refine ztu 5 (by assumption) ?_
   try simp only [Act.put,zgA,zgB,zgC,stT,stZ,stS]
   refine ztu 6 (by assumption) ?_
   try simp only [Act.put,zgA,zgB,zgC,stT,stZ,stS]
   refine ztk 7 (v:=?_) ?_ (by assumption) ?_
   rotate_left
   · (intro w hSw;(try dsimp only at hSw);go_simp;try with_reducible rfl)
   try simp only [Act.put,zgA,zgB,zgC,stT,stZ,stS]
   refine ztk 8 (v:=?_) ?_ (by assumption) ?_
   rotate_left
   · (intro w hSw;(try dsimp only at hSw);go_simp;try with_reducible rfl)
   try simp only [Act.put,zgA,zgB,zgC,stT,stZ,stS]
   refine ztu 9 (by assumption) ?_
   try simp only [Act.put,zgA,zgB,zgC,stT,stZ,stS]
   refine ztu 10 (by assumption) ?_
   try simp only [Act.put,zgA,zgB,zgC,stT,stZ,stS]
   refine ztu 11 (by assumption) ?_
   try simp only [Act.put,zgA,zgB,zgC,stT,stZ,stS]
   refine ztk 12 (v:=?_) ?_ (by assumption) ?_
   rotate_left
   · (intro w hSw;(try dsimp only at hSw);go_simp;try with_reducible rfl)
   try simp only [Act.put,zgA,zgB,zgC,stT,stZ,stS]
   refine ztk 13 (v:=?_) ?_ (by assumption) ?_
   rotate_left
   · (intro w hSw;(try dsimp only at hSw);go_simp;try with_reducible rfl)
   try simp only [Act.put,zgA,zgB,zgC,stT,stZ,stS]
   refine ztu 14 (by assumption) ?_
   try simp only [Act.put,zgA,zgB,zgC,stT,stZ,stS]
   refine ztu 15 (by assumption) ?_
   try simp only [Act.put,zgA,zgB,zgC,stT,stZ,stS]
   refine ztu 16 (by assumption) ?_
   try simp only [Act.put,zgA,zgB,zgC,stT,stZ,stS]
   refine ztu 17 (by assumption) ?_
   try simp only [Act.put,zgA,zgB,zgC,stT,stZ,stS]
   refine ztu 18 (by assumption) ?_
   try simp only [Act.put,zgA,zgB,zgC,stT,stZ,stS]
   refine ztk 19 (v:=?_) ?_ (by assumption) ?_
   rotate_left
   · (intro w hSw;(try dsimp only at hSw);go_simp;try with_reducible rfl)
   try simp only [Act.put,zgA,zgB,zgC,stT,stZ,stS]
   refine ztk 20 (v:=?_) ?_ (by assumption) ?_
   rotate_left
   · (intro w hSw;(try dsimp only at hSw);go_simp;try with_reducible rfl)
   try simp only [Act.put,zgA,zgB,zgC,stT,stZ,stS]
   refine wpAnyH_done (by kernel_rfl) ?_ _
   have HD:=Hd (qff_held hHeld)
   clear hHeld
   have B9:=Hd (B1.out.trans (HD.out.mono B1.out.size))
   clear HE HL HD B1
   go_wp2_with fail
   go_ret
   exact ⟨by rw [HPB.out];rfl,B9.out⟩
 | true =>
 cases pb with
 | false =>
   refine wp_region_held_drew (S:=(fun w'=>w'.cell? ⟨w.heap.size,0,none⟩=some (Value.string x.name)∧w'.cell? ⟨w.heap.size,1,none⟩=some (Value.slice Ap x.params.length kp)∧w'.cell? ⟨w.heap.size,2,none⟩=some (Value.string x.tn)∧w'.cell? ⟨w.heap.size,3,none⟩=some (Value.int .i64 x.tl)∧w'.cell? ⟨w.heap.size,4,none⟩=some (Value.int .i64 x.tm)∧w'.cell? ⟨w.heap.size,5,none⟩=some (Value.slice Ad x.dirs.length kd)∧QI3 w1 [(w.heap.size,0,(Value.string x.name)),(w.heap.size,1,(Value.slice Ap x.params.length kp)),(w.heap.size,2,(Value.string x.tn)),(w.heap.size,3,(Value.int .i64 x.tl)),(w.heap.size,4,(Value.int .i64 x.tm)),(w.heap.size,5,(Value.slice Ad x.dirs.length kd))] w')) (by kernel_rfl) (qff_written (HE.out.next HL.out (Below.drew (Below.refl _ _)))) (fun hHeld=>?_)
   refine ztk 0 (v:=?_) ?_ (by assumption) ?_
   rotate_left
   · (intro w hSw;(try dsimp only at hSw);go_simp;try with_reducible rfl)
   try simp only [Act.put,zgA,zgB,stT,stZ,stS]
   refine ztk 1 (v:=?_) ?_ (by assumption) ?_
   rotate_left
   · (intro w hSw;(try dsimp only at hSw);go_simp;try with_reducible rfl)
   try simp only [Act.put,zgA,zgB,zgC,stT,stZ,stS]
   refine wpAnyH_ready (rs:=[2]) (by kernel_rfl) (by simp) ?_
   refine AllReadyH.cons (o:=_) rfl (fun K hK=>?_) AllReadyH.nil
   go_simp
   refine (NA.out _).mono ?_
   rintro e w' ⟨rfl,hb⟩
   have HBN:=Hd hb
   go_wp2_with fail
   refine hK.out _ _ (qff_written (QI3.next (qff_last (by assumption)) HL.out HBN.out)) (fun hHeld=>?_)
   clear hK K
   try simp only [Act.put,zgA,zgB,zgC,stT,stZ,stS]
   refine ztk 3 (v:=?_) ?_ (by assumption) ?_
   rotate_left
   · (intro w hSw;(try dsimp only at hSw);go_simp;try with_reducible rfl)
   try simp only [Act.put,zgA,zgB,zgC,stT,stZ,stS]
   refine ztk 4 (v:=?_) ?_ (by assumption) ?_
   rotate_left
   · (intro w hSw;(try dsimp only at hSw);go_simp;try with_reducible rfl)
   try simp only [Act.put,zgA,zgB,zgC,stT,stZ,stS]
   refine ztk 5 (v:=?_) ?_ (by assumption) ?_
   rotate_left
   · (intro w hSw;(try dsimp only at hSw);go_simp;try with_reducible rfl)
   try simp only [Act.put,zgA,zgB,zgC,stT,stZ,stS]
   refine wpAnyH_ready (rs:=[6]) (by kernel_rfl) (by simp) ?_
   refine AllReadyH.cons (o:=_) rfl (fun K hK=>?_) AllReadyH.nil
   go_simp
   refine (AP.out _ (B1.out.trans (Below.mono (by first|exact qff_held (by assumption)|exact Below.drew (Below.refl _ _)) B1.out.size))).mono ?_
   rintro e w' ⟨rfl,hb⟩
   have HBN:=Hd hb
   go_wp2_with fail
   refine hK.out _ _ (qff_written (QI3.next (qff_last (by assumption)) HL.out HBN.out)) (fun hHeld=>?_)
   clear hK K
   try simp only [Act.put,zgA,zgB,zgC,stT,stZ,stS]
   refine ztk 7 (v:=?_) ?_ (by assumption) ?_
   rotate_left
   · (intro w hSw;(try dsimp only at hSw);go_simp;try with_reducible rfl)
   try simp only [Act.put,zgA,zgB,zgC,stT,stZ,stS]
   refine ztk 8 (v:=?_) ?_ (by assumption) ?_
   rotate_left
   · (intro w hSw;(try dsimp only at hSw);go_simp;try with_reducible rfl)
   try simp only [Act.put,zgA,zgB,zgC,stT,stZ,stS]
   refine ztu 9 (by assumption) ?_
   try simp only [Act.put,zgA,zgB,zgC,stT,stZ,stS]
   refine ztu 10 (by assumption) ?_
   try simp only [Act.put,zgA,zgB,zgC,stT,stZ,stS]
   refine ztu 11 (by assumption) ?_
   try simp only [Act.put,zgA,zgB,zgC,stT,stZ,stS]
   refine ztk 12 (v:=?_) ?_ (by assumption) ?_
   rotate_left
   · (intro w hSw;(try dsimp only at hSw);go_simp;try with_reducible rfl)
   try simp only [Act.put,zgA,zgB,zgC,stT,stZ,stS]
   refine ztk 13 (v:=?_) ?_ (by assumption) ?_
   rotate_left
   · (intro w hSw;(try dsimp only at hSw);go_simp;try with_reducible rfl)
   try simp only [Act.put,zgA,zgB,zgC,stT,stZ,stS]
   refine ztu 14 (by assumption) ?_
   try simp only [Act.put,zgA,zgB,zgC,stT,stZ,stS]
   refine ztu 15 (by assumption) ?_
   try simp only [Act.put,zgA,zgB,zgC,stT,stZ,stS]
   refine ztu 16 (by assumption) ?_
   try simp only [Act.put,zgA,zgB,zgC,stT,stZ,stS]
   refine ztu 17 (by assumption) ?_
   try simp only [Act.put,zgA,zgB,zgC,stT,stZ,stS]
   refine ztu 18 (by assumption) ?_
   try simp only [Act.put,zgA,zgB,zgC,stT,stZ,stS]
   refine ztk 19 (v:=?_) ?_ (by assumption) ?_
   rotate_left
   · (intro w hSw;(try dsimp only at hSw);go_simp;try with_reducible rfl)
   try simp only [Act.put,zgA,zgB,zgC,stT,stZ,stS]
   refine ztk 20 (v:=?_) ?_ (by assumption) ?_
   rotate_left
   · (intro w hSw;(try dsimp only at hSw);go_simp;try with_reducible rfl)
   try simp only [Act.put,zgA,zgB,zgC,stT,stZ,stS]
   refine wpAnyH_done (by kernel_rfl) ?_ _
   have HD:=Hd (qff_held hHeld)
   clear hHeld
   have B9:=Hd (B1.out.trans (HD.out.mono B1.out.size))
   clear HE HL HD B1
   go_wp2_with fail
   go_ret
   exact ⟨by rw [HPB.out];rfl,B9.out⟩
 | true =>
 cases rt with
 | false =>
   refine wp_region_held_drew (S:=(fun w'=>w'.cell? ⟨w.heap.size,0,none⟩=some (Value.string x.name)∧w'.cell? ⟨w.heap.size,1,none⟩=some (Value.slice Ap x.params.length kp)∧w'.cell? ⟨w.heap.size,2,none⟩=some (Value.string x.tn)∧w'.cell? ⟨w.heap.size,3,none⟩=some (Value.int .i64 x.tl)∧w'.cell? ⟨w.heap.size,4,none⟩=some (Value.int .i64 x.tm)∧w'.cell? ⟨w.heap.size,5,none⟩=some (Value.slice Ad x.dirs.length kd)∧QI3 w1 [(w.heap.size,0,(Value.string x.name)),(w.heap.size,1,(Value.slice Ap x.params.length kp)),(w.heap.size,2,(Value.string x.tn)),(w.heap.size,3,(Value.int .i64 x.tl)),(w.heap.size,4,(Value.int .i64 x.tm)),(w.heap.size,5,(Value.slice Ad x.dirs.length kd))] w')) (by kernel_rfl) (qff_written (HE.out.next HL.out (Below.drew (Below.refl _ _)))) (fun hHeld=>?_)
   refine ztk 0 (v:=?_) ?_ (by assumption) ?_
   rotate_left
   · (intro w hSw;(try dsimp only at hSw);go_simp;try with_reducible rfl)
   try simp only [Act.put,zgA,zgB,stT,stZ,stS]
   refine ztk 1 (v:=?_) ?_ (by assumption) ?_
   rotate_left
   · (intro w hSw;(try dsimp only at hSw);go_simp;try with_reducible rfl)
   try simp only [Act.put,zgA,zgB,zgC,stT,stZ,stS]
   refine wpAnyH_ready (rs:=[2]) (by kernel_rfl) (by simp) ?_
   refine AllReadyH.cons (o:=_) rfl (fun K hK=>?_) AllReadyH.nil
   go_simp
   refine (NA.out _).mono ?_
   rintro e w' ⟨rfl,hb⟩
   have HBN:=Hd hb
   go_wp2_with fail
   refine hK.out _ _ (qff_written (QI3.next (qff_last (by assumption)) HL.out HBN.out)) (fun hHeld=>?_)
   clear hK K
   try simp only [Act.put,zgA,zgB,zgC,stT,stZ,stS]
   refine ztk 3 (v:=?_) ?_ (by assumption) ?_
   rotate_left
   · (intro w hSw;(try dsimp only at hSw);go_simp;try with_reducible rfl)
   try simp only [Act.put,zgA,zgB,zgC,stT,stZ,stS]
   refine ztk 4 (v:=?_) ?_ (by assumption) ?_
   rotate_left
   · (intro w hSw;(try dsimp only at hSw);go_simp;try with_reducible rfl)
   try simp only [Act.put,zgA,zgB,zgC,stT,stZ,stS]
   refine ztk 5 (v:=?_) ?_ (by assumption) ?_
   rotate_left
   · (intro w hSw;(try dsimp only at hSw);go_simp;try with_reducible rfl)
   try simp only [Act.put,zgA,zgB,zgC,stT,stZ,stS]
   refine wpAnyH_ready (rs:=[6]) (by kernel_rfl) (by simp) ?_
   refine AllReadyH.cons (o:=_) rfl (fun K hK=>?_) AllReadyH.nil
   go_simp
   refine (AP.out _ (B1.out.trans (Below.mono (by first|exact qff_held (by assumption)|exact Below.drew (Below.refl _ _)) B1.out.size))).mono ?_
   rintro e w' ⟨rfl,hb⟩
   have HBN:=Hd hb
   go_wp2_with fail
   refine hK.out _ _ (qff_written (QI3.next (qff_last (by assumption)) HL.out HBN.out)) (fun hHeld=>?_)
   clear hK K
   try simp only [Act.put,zgA,zgB,zgC,stT,stZ,stS]
   refine ztk 7 (v:=?_) ?_ (by assumption) ?_
   rotate_left
   · (intro w hSw;(try dsimp only at hSw);go_simp;try with_reducible rfl)
   try simp only [Act.put,zgA,zgB,zgC,stT,stZ,stS]
   refine ztk 8 (v:=?_) ?_ (by assumption) ?_
   rotate_left
   · (intro w hSw;(try dsimp only at hSw);go_simp;try with_reducible rfl)
   try simp only [Act.put,zgA,zgB,zgC,stT,stZ,stS]
   refine ztk 9 (v:=?_) ?_ (by assumption) ?_
   rotate_left
   · (intro w hSw;(try dsimp only at hSw);go_simp;try with_reducible rfl)
   try simp only [Act.put,zgA,zgB,zgC,stT,stZ,stS]
   refine ztk 10 (v:=?_) ?_ (by assumption) ?_
   rotate_left
   · (intro w hSw;(try dsimp only at hSw);go_simp;try with_reducible rfl)
   try simp only [Act.put,zgA,zgB,zgC,stT,stZ,stS]
   refine wpAnyH_ready (rs:=[11]) (by kernel_rfl) (by simp) ?_
   refine AllReadyH.cons (o:=_) rfl (fun K hK=>?_) AllReadyH.nil
   go_simp
   refine (WR.out _).mono ?_
   rintro e w' ⟨rfl,hb⟩
   have HBN:=Hd hb
   go_wp2_with fail
   refine hK.out _ _ (qff_written (QI3.next (qff_last (by assumption)) HL.out HBN.out)) (fun hHeld=>?_)
   clear hK K
   try simp only [Act.put,zgA,zgB,zgC,stT,stZ,stS]
   refine ztk 12 (v:=?_) ?_ (by assumption) ?_
   rotate_left
   · (intro w hSw;(try dsimp only at hSw);go_simp;try with_reducible rfl)
   try simp only [Act.put,zgA,zgB,zgC,stT,stZ,stS]
   refine ztk 13 (v:=?_) ?_ (by assumption) ?_
   rotate_left
   · (intro w hSw;(try dsimp only at hSw);go_simp;try with_reducible rfl)
   try simp only [Act.put,zgA,zgB,zgC,stT,stZ,stS]
   refine ztu 14 (by assumption) ?_
   try simp only [Act.put,zgA,zgB,zgC,stT,stZ,stS]
   refine ztu 15 (by assumption) ?_
   try simp only [Act.put,zgA,zgB,zgC,stT,stZ,stS]
   refine ztu 16 (by assumption) ?_
   try simp only [Act.put,zgA,zgB,zgC,stT,stZ,stS]
   refine ztu 17 (by assumption) ?_
   try simp only [Act.put,zgA,zgB,zgC,stT,stZ,stS]
   refine ztu 18 (by assumption) ?_
   try simp only [Act.put,zgA,zgB,zgC,stT,stZ,stS]
   refine ztk 19 (v:=?_) ?_ (by assumption) ?_
   rotate_left
   · (intro w hSw;(try dsimp only at hSw);go_simp;try with_reducible rfl)
   try simp only [Act.put,zgA,zgB,zgC,stT,stZ,stS]
   refine ztk 20 (v:=?_) ?_ (by assumption) ?_
   rotate_left
   · (intro w hSw;(try dsimp only at hSw);go_simp;try with_reducible rfl)
   try simp only [Act.put,zgA,zgB,zgC,stT,stZ,stS]
   refine wpAnyH_done (by kernel_rfl) ?_ _
   have HD:=Hd (qff_held hHeld)
   clear hHeld
   have B9:=Hd (B1.out.trans (HD.out.mono B1.out.size))
   clear HE HL HD B1
   go_wp2_with fail
   go_ret
   exact ⟨by rw [HPB.out];rfl,B9.out⟩
 | true =>
   refine wp_region_held_drew (S:=(fun w'=>w'.cell? ⟨w.heap.size,0,none⟩=some (Value.string x.name)∧w'.cell? ⟨w.heap.size,1,none⟩=some (Value.slice Ap x.params.length kp)∧w'.cell? ⟨w.heap.size,2,none⟩=some (Value.string x.tn)∧w'.cell? ⟨w.heap.size,3,none⟩=some (Value.int .i64 x.tl)∧w'.cell? ⟨w.heap.size,4,none⟩=some (Value.int .i64 x.tm)∧w'.cell? ⟨w.heap.size,5,none⟩=some (Value.slice Ad x.dirs.length kd)∧QI3 w1 [(w.heap.size,0,(Value.string x.name)),(w.heap.size,1,(Value.slice Ap x.params.length kp)),(w.heap.size,2,(Value.string x.tn)),(w.heap.size,3,(Value.int .i64 x.tl)),(w.heap.size,4,(Value.int .i64 x.tm)),(w.heap.size,5,(Value.slice Ad x.dirs.length kd))] w')) (by kernel_rfl) (qff_written (HE.out.next HL.out (Below.drew (Below.refl _ _)))) (fun hHeld=>?_)
   refine ztk 0 (v:=?_) ?_ (by assumption) ?_
   rotate_left
   · (intro w hSw;(try dsimp only at hSw);go_simp;try with_reducible rfl)
   try simp only [Act.put,zgA,zgB,stT,stZ,stS]
   refine ztk 1 (v:=?_) ?_ (by assumption) ?_
   rotate_left
   · (intro w hSw;(try dsimp only at hSw);go_simp;try with_reducible rfl)
   try simp only [Act.put,zgA,zgB,zgC,stT,stZ,stS]
   refine wpAnyH_ready (rs:=[2]) (by kernel_rfl) (by simp) ?_
   refine AllReadyH.cons (o:=_) rfl (fun K hK=>?_) AllReadyH.nil
   go_simp
   refine (NA.out _).mono ?_
   rintro e w' ⟨rfl,hb⟩
   have HBN:=Hd hb
   go_wp2_with fail
   refine hK.out _ _ (qff_written (QI3.next (qff_last (by assumption)) HL.out HBN.out)) (fun hHeld=>?_)
   clear hK K
   try simp only [Act.put,zgA,zgB,zgC,stT,stZ,stS]
   refine ztk 3 (v:=?_) ?_ (by assumption) ?_
   rotate_left
   · (intro w hSw;(try dsimp only at hSw);go_simp;try with_reducible rfl)
   try simp only [Act.put,zgA,zgB,zgC,stT,stZ,stS]
   refine ztk 4 (v:=?_) ?_ (by assumption) ?_
   rotate_left
   · (intro w hSw;(try dsimp only at hSw);go_simp;try with_reducible rfl)
   try simp only [Act.put,zgA,zgB,zgC,stT,stZ,stS]
   refine ztk 5 (v:=?_) ?_ (by assumption) ?_
   rotate_left
   · (intro w hSw;(try dsimp only at hSw);go_simp;try with_reducible rfl)
   try simp only [Act.put,zgA,zgB,zgC,stT,stZ,stS]
   refine wpAnyH_ready (rs:=[6]) (by kernel_rfl) (by simp) ?_
   refine AllReadyH.cons (o:=_) rfl (fun K hK=>?_) AllReadyH.nil
   go_simp
   refine (AP.out _ (B1.out.trans (Below.mono (by first|exact qff_held (by assumption)|exact Below.drew (Below.refl _ _)) B1.out.size))).mono ?_
   rintro e w' ⟨rfl,hb⟩
   have HBN:=Hd hb
   go_wp2_with fail
   refine hK.out _ _ (qff_written (QI3.next (qff_last (by assumption)) HL.out HBN.out)) (fun hHeld=>?_)
   clear hK K
   try simp only [Act.put,zgA,zgB,zgC,stT,stZ,stS]
   refine ztk 7 (v:=?_) ?_ (by assumption) ?_
   rotate_left
   · (intro w hSw;(try dsimp only at hSw);go_simp;try with_reducible rfl)
   try simp only [Act.put,zgA,zgB,zgC,stT,stZ,stS]
   refine ztk 8 (v:=?_) ?_ (by assumption) ?_
   rotate_left
   · (intro w hSw;(try dsimp only at hSw);go_simp;try with_reducible rfl)
   try simp only [Act.put,zgA,zgB,zgC,stT,stZ,stS]
   refine ztk 9 (v:=?_) ?_ (by assumption) ?_
   rotate_left
   · (intro w hSw;(try dsimp only at hSw);go_simp;try with_reducible rfl)
   try simp only [Act.put,zgA,zgB,zgC,stT,stZ,stS]
   refine ztk 10 (v:=?_) ?_ (by assumption) ?_
   rotate_left
   · (intro w hSw;(try dsimp only at hSw);go_simp;try with_reducible rfl)
   try simp only [Act.put,zgA,zgB,zgC,stT,stZ,stS]
   refine wpAnyH_ready (rs:=[11]) (by kernel_rfl) (by simp) ?_
   refine AllReadyH.cons (o:=_) rfl (fun K hK=>?_) AllReadyH.nil
   go_simp
   refine (WR.out _).mono ?_
   rintro e w' ⟨rfl,hb⟩
   have HBN:=Hd hb
   go_wp2_with fail
   refine hK.out _ _ (qff_written (QI3.next (qff_last (by assumption)) HL.out HBN.out)) (fun hHeld=>?_)
   clear hK K
   try simp only [Act.put,zgA,zgB,zgC,stT,stZ,stS]
   refine ztk 12 (v:=?_) ?_ (by assumption) ?_
   rotate_left
   · (intro w hSw;(try dsimp only at hSw);go_simp;try with_reducible rfl)
   try simp only [Act.put,zgA,zgB,zgC,stT,stZ,stS]
   refine ztk 13 (v:=?_) ?_ (by assumption) ?_
   rotate_left
   · (intro w hSw;(try dsimp only at hSw);go_simp;try with_reducible rfl)
   try simp only [Act.put,zgA,zgB,zgC,stT,stZ,stS]
   refine ztk 14 (v:=?_) ?_ (by assumption) ?_
   rotate_left
   · (intro w hSw;(try dsimp only at hSw);go_simp;try with_reducible rfl)
   try simp only [Act.put,zgA,zgB,zgC,stT,stZ,stS]
   refine ztk 15 (v:=?_) ?_ (by assumption) ?_
   rotate_left
   · (intro w hSw;(try dsimp only at hSw);go_simp;try with_reducible rfl)
   try simp only [Act.put,zgA,zgB,zgC,stT,stZ,stS]
   refine wpAnyH_ready (rs:=[16]) (by kernel_rfl) (by simp) ?_
   refine AllReadyH.cons (o:=_) rfl (fun K hK=>?_) AllReadyH.nil
   go_simp
   refine (outside_any _).mono ?_
   rintro e w' ⟨rfl,hb⟩
   have HBN:=Hd hb
   go_wp2_with fail
   refine hK.out _ _ (qff_written (QI3.next (qff_last (by assumption)) HL.out HBN.out)) (fun hHeld=>?_)
   clear hK K
   try simp only [Act.put,zgA,zgB,zgC,stT,stZ,stS]
   refine ztk 17 (v:=?_) ?_ (by assumption) ?_
   rotate_left
   · (intro w hSw;(try dsimp only at hSw);go_simp;try with_reducible rfl)
   try simp only [Act.put,zgA,zgB,zgC,stT,stZ,stS]
   refine wpAnyH_ready (rs:=[18]) (by kernel_rfl) (by simp) ?_
   refine AllReadyH.cons (o:=_) rfl (fun K hK=>?_) AllReadyH.nil
   go_simp
   refine (AD.out _ (B1.out.trans (Below.mono (by first|exact qff_held (by assumption)|exact Below.drew (Below.refl _ _)) B1.out.size))).mono ?_
   rintro e w' ⟨rfl,hb⟩
   have HBN:=Hd hb
   go_wp2_with fail
   refine hK.out _ _ (qff_written (QI3.next (qff_last (by assumption)) HL.out HBN.out)) (fun hHeld=>?_)
   clear hK K
   try simp only [Act.put,zgA,zgB,zgC,stT,stZ,stS]
   refine ztk 19 (v:=?_) ?_ (by assumption) ?_
   rotate_left
   · (intro w hSw;(try dsimp only at hSw);go_simp;try with_reducible rfl)
   try simp only [Act.put,zgA,zgB,zgC,stT,stZ,stS]
   refine ztk 20 (v:=?_) ?_ (by assumption) ?_
   rotate_left
   · (intro w hSw;(try dsimp only at hSw);go_simp;try with_reducible rfl)
   try simp only [Act.put,zgA,zgB,zgC,stT,stZ,stS]
   refine wpAnyH_done (by kernel_rfl) ?_ _
   have HD:=Hd (qff_held hHeld)
   clear hHeld
   have B9:=Hd (B1.out.trans (HD.out.mono B1.out.size))
   clear HE HL HD B1
   go_wp2_with fail
   go_ret
   exact ⟨by rw [HPB.out];rfl,B9.out⟩
end Go.Proofs.YtaekdfcpbepepaaGreatDoor
