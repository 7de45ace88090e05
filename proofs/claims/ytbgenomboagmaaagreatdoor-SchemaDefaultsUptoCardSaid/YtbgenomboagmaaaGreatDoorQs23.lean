/- literal.Right. -/
import Derived.Test.YtbgenomboagmaaaGreatDoorQs22
import Derived.Maps.OwnIn
set_option maxRecDepth 100000
set_option maxHeartbeats 8000000
namespace Go.Proofs.YtbgenomboagmaaaGreatDoor
open Go.RowKit
attribute [local go_sem] Oper.semAt_some
theorem ts_vat {w:World} {B:Nat} {v:VT} {c0 c1 c2 c3 c4:Value} (h:TS w (fun b=>b < B) (encV v) [c0,c1,c2,c3,c4]):VAt w B v c0 c1 c2 c3 c4:=by
 obtain ⟨d0,d1,d2,d3,d4,e,h1⟩:=ts_vp v _ h
 cases e
 exact VP.at (fun _ h=>h) v _ _ _ _ _ h1
def R4 (W:World) (g0 g1 g2 g3:Nat) (cs ct cv:Array Value):Prop:=W.heap[g0]? = some (.cells cs 24 (0,0))∧W.heap[g1]? = some (.cells ct 43 (0,0))∧W.heap[g2]? = some (.cells cv 54 (0,0))∧W.heap[g3]? = some (.cells #[.bool false] 4 (0,0))
theorem R4.next {W W':World} {g0 g1 g2 g3:Nat} {cs ct cv:Array Value} (h:R4 W g0 g1 g2 g3 cs ct cv) (hb:Below W.heap.size W W'):R4 W' g0 g1 g2 g3 cs ct cv:=by
 obtain ⟨h0,h1,h2,h3⟩:=h
 exact ⟨(hb.block _ (Array.getElem?_eq_some_iff.1 h0).1).trans h0,(hb.block _ (Array.getElem?_eq_some_iff.1 h1).1).trans h1,(hb.block _ (Array.getElem?_eq_some_iff.1 h2).1).trans h2,(hb.block _ (Array.getElem?_eq_some_iff.1 h3).1).trans h3⟩
theorem R4.start (w:World) (cs ct cv:Array Value):R4 ((((w.alloc (.cells cs 24)).alloc (.cells ct 43)).alloc (.cells cv 54)).alloc (.cells #[.bool false] 4)) w.heap.size (w.heap.size+1) (w.heap.size+1+1) (w.heap.size+1+1+1) cs ct cv:=by
 refine ⟨?_,?_,?_,?_⟩
 · rw [Below.heap_alloc _ _ _ (by simp;omega),Below.heap_alloc _ _ _ (by simp;omega),Below.heap_alloc _ _ _ (by simp)];exact heap_alloc_new _ _
 · rw [Below.heap_alloc _ _ _ (by simp),Below.heap_alloc _ _ _ (by simp)];exact heap_two _ _ _
 · rw [Below.heap_alloc _ _ _ (by simp)]
   have:=heap_two (w.alloc (.cells cs 24)) (.cells ct 43) (.cells cv 54)
   simpa using this
 · have:=heap_two ((w.alloc (.cells cs 24)).alloc (.cells ct 43)) (.cells cv 54) (.cells #[.bool false] 4)
   simpa using this
theorem one_box {w:World} {g:Nat} {u:Value} {t:TypeId} (h:w.heap[g]? = some (.cells #[u] t (0,0))):w.cell? ⟨g,0,none⟩=some u∧w.frozen? ⟨g,0,none⟩=false:=by
 simp [World.cell?,World.frozen?,h]
theorem five_box {w:World} {g:Nat} {c0 c1 c2 c3 c4:Value} {t:TypeId} (h:w.heap[g]? = some (.cells #[c0,c1,c2,c3,c4] t (0,0))):w.cell? ⟨g,0,none⟩=some c0∧w.cell? ⟨g,1,none⟩=some c1∧w.cell? ⟨g,2,none⟩=some c2∧w.cell? ⟨g,3,none⟩=some c3∧w.cell? ⟨g,4,none⟩=some c4:=by
 simp [World.cell?,h]
theorem four_low (w:World) (a b c d:Obj):Below w.heap.size w ((((w.alloc a).alloc b).alloc c).alloc d):=((tbl w a b).alloc (by simp;omega) c).alloc (by simp;omega) d
theorem pl_ts' {w:World} {B:Nat} {n:ByteArray} {l m:Int} {hs:Bool} {v:VT} {c0 c1 c2 c3 c4:Value} (hn:n.size≤9223372036854775807) (h:TS w (fun b=>b < B) (encV v) [c0,c1,c2,c3,c4]):TS w (fun b=>b < B) (encPl ⟨n,l,m,hs,v⟩) [.string n,.int .i64 l,.int .i64 m,.bool hs,c0,c1,c2,c3,c4]:=by
 unfold encPl
 simp only [TS,TP]
 exact ⟨_,_,rfl,⟨rfl,hn⟩,_,_,rfl,⟨rfl,trivial⟩,_,_,rfl,⟨rfl,trivial⟩,_,_,rfl,⟨rfl,trivial⟩,h⟩
def rightL (D:List DefnT) (p:PlT):Bool:=fitV goodB p.v && (allP D p).all fun x=>fitsB D x.tn x.tl x.tm x.v
theorem right_any (S:SchT) (n:ByteArray) (l m:Int) (v:VT) (c0 c1 c2:Value) (A3 A4:Option Addr) (k3 k4:Nat) (w:World) (B:Nat) (hB:B≤w.heap.size) (hw:Laid5 w) (hz:SlimS S) (hvz:sizeV v≤1100000)
   (XS:List PlT) (hXS:XS=allP S.defs ⟨n,l,m,false,v⟩) (KS:List ByteArray) (hKS:KS.length≤maxLen) (hsl:∀ x,x ∈ XS→SlimP KS x) (hN:XS.length≤1099511627776) (hnm:n.size≤9223372036854775807)
   (hS:TS w (fun b=>b < B) (encSch S) [c0,c1,c2]) (hV:TS w (fun b=>b < B) (encV v) [.int .i64 v.kd,.int .i64 v.nn,.string v.ss,.slice A3 v.ls.len k3,.slice A4 v.ms.len k4]) :
   Calls Tryz.prog 24 #[.agg #[c0,c1,c2],.agg #[.string n,.int .i64 l,.int .i64 m],.agg #[.int .i64 v.kd,.int .i64 v.nn,.string v.ss,.slice A3 v.ls.len k3,.slice A4 v.ms.len k4]] w fun e w'=>e=.returned (.bool (rightL S.defs ⟨n,l,m,false,v⟩))∧Below w.heap.size w w':=by
 obtain ⟨A,k,e,_⟩:=sch_cells hS
 injection e with e0 e
 injection e with e1 e
 injection e with e2 e
 subst e0 e1 e2
 have GD:=Hd (fun (wx:World) (hb:Below w.heap.size w wx)=>vgood_any v hvz _ _ _ _ _ wx B (Nat.le_trans hB hb.size) (ts_vat (TS.low (hb.mono hB) hV)) (hw.below hb))
 have HS:=Hd hS
 have HV:=Hd hV
 have HSL:=Hd hsl
 have HX:=Hd hXS
 have HZ:=Hd hz
 clear hw hS hV hsl hXS hz
 refine callsIn_wide.1 (callsIn_of_wp_marks (F:=Fence.wide) (n:=3) Tryz.func24 rfl trivial ?_)
 simp only [Tryz.ntmps24,List.size_toArray,List.length_cons,List.length_nil,Nat.reduceAdd,Nat.reduceSub,Array.replicate_succ,Array.replicate_zero,List.push_toArray,List.append_toArray,List.nil_append,List.cons_append]
 refine wpIn_wide.2 ?_
 go_upto_region 1 with fail
 have R0:=Hd (R4.start w #[.slice A S.defs.length k,.string S.query,.string S.mutation] #[.string n,.int .i64 l,.int .i64 m] #[.int .i64 v.kd,.int .i64 v.nn,.string v.ss,.slice A3 v.ls.len k3,.slice A4 v.ms.len k4])
 have B0:=Hd (four_low w (.cells #[.slice A S.defs.length k,.string S.query,.string S.mutation] 24) (.cells #[.string n,.int .i64 l,.int .i64 m] 43) (.cells #[.int .i64 v.kd,.int .i64 v.nn,.string v.ss,.slice A3 v.ls.len k3,.slice A4 v.ms.len k4] 54) (.cells #[.bool false] 4))
 generalize (((w.alloc (.cells #[.slice A S.defs.length k,.string S.query,.string S.mutation] 24)).alloc (.cells #[.string n,.int .i64 l,.int .i64 m] 43)).alloc (.cells #[.int .i64 v.kd,.int .i64 v.nn,.string v.ss,.slice A3 v.ls.len k3,.slice A4 v.ms.len k4] 54)).alloc (.cells #[.bool false] 4)=w1 at R0 B0 ⊢
 generalize hg3:w.heap.size+1+1+1=g3 at R0 ⊢
 generalize hg2:w.heap.size+1+1=g2 at R0 ⊢
 generalize hg1:w.heap.size+1=g1 at R0 ⊢
 have HG:=Hd (And.intro hg1 (And.intro hg2 hg3))
 clear hg1 hg2 hg3
 obtain ⟨x0,x1,x2,x3,x4⟩:=five_box R0.out.2.2.1
 go_wp2_with fail
 refine (GD.out _ B0.out).mono ?_
 rintro e w2 ⟨rfl,hb2⟩
 have R2:=Hd (R0.out.next hb2)
 have R2K:=Hd R2.out.2.2.2
 have B2:=Hd (B0.out.trans (hb2.mono B0.out.size))
 clear x0 x1 x2 x3 x4 R0 hb2 B0 GD
 obtain ⟨q0,q1⟩:=one_box R2.out.2.2.2
 obtain ⟨bg,hbg⟩:∃ b,fitV goodB v=b:=⟨_,rfl⟩
 rw [hbg]
 cases bg
 · go_wp2_with fail
   have hg:=HG.out
   refine postM_ret (res_bool rfl rfl (World.cell?_setCell_same' _ _ _ (by rw [q0];rfl))) rfl ⟨by unfold rightL;rw [hbg];rfl,B2.out.setCell (p:=⟨g3,0,none⟩) (by show _≤g3;omega) _⟩
 obtain ⟨y0,y1,y2⟩:=three_cells R2.out.1
 have AK:=Hd (fun (wx:World)=>ask_any A S.defs.length k S.query S.mutation wx)
 go_wp2_with fail
 refine (AK.out _).mono ?_
 rintro e w3 ⟨M,rfl,hb3,hM3,hO3⟩
 have R3:=Hd (R2.out.next hb3)
 have B3:=Hd (B2.out.trans (hb3.mono B2.out.size))
 have HM:=Hd hM3
 have HO:=Hd hO3
 clear q0 q1 y0 y1 y2 R2 hb3 B2 AK hM3 hO3
 go_upto_region 4 with fail
 have A4:=heap_alloc_new w3 (.cells #[.slice A S.defs.length k,.string S.query,.string S.mutation,.map (some M)] 80)
 have D4:=Hd (dbelow_new w3 (.cells #[.slice A S.defs.length k,.string S.query,.string S.mutation,.map (some M)] 80))
 have Z4:(w3.alloc (.cells #[.slice A S.defs.length k,.string S.query,.string S.mutation,.map (some M)] 80)).heap.size=w3.heap.size+1:=by simp
 generalize w3.alloc (.cells #[.slice A S.defs.length k,.string S.query,.string S.mutation,.map (some M)] 80)=w4 at A4 D4 Z4 ⊢
 have R4':=Hd (R3.out.next D4.out)
 have HZ4:=Hd Z4
 have HA4:=Hd A4
 obtain ⟨ga,hga⟩:∃ g,w3.heap.size=g:=⟨_,rfl⟩
 have HGA:=Hd hga
 rw [hga] at A4 ⊢
 clear hga Z4
 obtain ⟨x0,x1,x2,x3⟩:=four_cells A4
 obtain ⟨y0,y1,y2⟩:=three_cells R4'.out.2.1
 obtain ⟨z0,z1,z2,z3,z4⟩:=five_box R4'.out.2.2.1
 clear A4
 have PLC:=Hd (fun (wx:World)=>places_any A A3 A4 S.defs.length k M S.query S.mutation n v.ss l m v.kd v.nn false v.ls.len k3 v.ms.len k4 wx)
 go_wp2_with fail
 refine (PLC.out _).mono ?_
 rintro e w5 ⟨rfl,hw5⟩
 have HW5:=Hd hw5
 clear hw5 PLC x0 x1 x2 x3 y0 y1 y2 z0 z1 z2 z3 z4
 go_wp2_with fail
 have hsz5:w5.heap.size=ga+3:=by rw [HW5.out];simp;have h1:=HZ4.out;have h2:=HGA.out;omega
 have L45:Below w4.heap.size w4 w5:=by rw [HW5.out];exact tbl _ _ _
 have S5:w5.heap[w4.heap.size]? = some (.cells #[.slice A S.defs.length k,.string S.query,.string S.mutation,.map (some M)] 80 (0,0)):=by rw [HW5.out,Below.heap_alloc _ _ _ (by simp)];exact heap_alloc_new _ _
 have P5:w5.heap[w4.heap.size+1]? = some (.cells #[.string n,.int .i64 l,.int .i64 m,.bool false,.int .i64 v.kd,.int .i64 v.nn,.string v.ss,.slice A3 v.ls.len k3,.slice A4 v.ms.len k4] 86 (0,0)):=by rw [HW5.out];exact heap_two _ _ _
 have R5:=Hd (R4'.out.next L45)
 have Q5:w5.heap[ga]? = some (.cells #[.slice A S.defs.length k,.string S.query,.string S.mutation,.map (some M)] 80 (0,0)):=by
   have h1:=HA4.out
   rw [HGA.out] at h1
   exact (L45.block ga (Array.getElem?_eq_some_iff.1 h1).1).trans h1
 have hga3:w3.heap.size=ga:=HGA.out
 have hsz4:w4.heap.size=ga+1:=by have:=HZ4.out;omega
 have hg3lt:g3 < w2.heap.size∧w.heap.size≤g3:=⟨(Array.getElem?_eq_some_iff.1 R2K.out).1,by have:=HG.out;omega⟩
 have hMr:w2.heap.size≤M∧M < ga:=⟨HM.out,by have:=(HO.out [] (fun _=>False) []).lt;omega⟩
 have LW:=Hd (B3.out.trans ((D4.out.mono B3.out.size).trans (L45.mono (by have:=B3.out.size;omega))))
 have O5:=Hd (fun (X:Nat→Prop)=>((HO.out S.defs X KS).low D4.out).low L45)
 rw [hsz4] at S5 P5 ⊢
 have HS5:=Hd S5
 have HP5:=Hd P5
 have HQ5:=Hd Q5
 clear S5 P5 Q5 HW5 HA4 HZ4 HGA HM HO D4 R3 B3 R4' L45 hsz4 hga3 R2K
 have hBM:B≤M:=by omega
 obtain ⟨b0,hb0⟩:∃ b,w5.heap.size+2=b:=⟨_,rfl⟩
 have hr3:=R5.out.2.2.2
 have TSC:=Hd (TS.low (LW.out.mono hB) HS.out)
 have TVV:=Hd (TS.low (LW.out.mono hB) HV.out)
 have IS0:Hid (∀ pb sb W1,(pb=ga+1+1∧(sb=ga+1∨sb=ga))→Below w5.heap.size w5 W1→W1.heap.size=w5.heap.size+2→IE S KS M B pb sb (w5.heap.size+2) (.slice A S.defs.length k) (.string S.query) (.string S.mutation) #[.string n,.int .i64 l,.int .i64 m,.bool false,.int .i64 v.kd,.int .i64 v.nn,.string v.ss,.slice A3 v.ls.len k3,.slice A4 v.ms.len k4] (fun b=>b=w5.heap.size+1,fun b=>b < B) W1):=Hd (by
   rintro pb sb W1 ⟨rfl,hsb⟩ hbl hsl1
   refine IE.start _ hBM (by omega) (by omega) (fun b hb=>by subst hb;omega) (by omega) (by omega) ((O5.out _).low hbl) ((hbl.block _ (by omega)).trans HP5.out) ?_ (TS.low (hbl.mono (by omega)) TSC.out)
   rcases hsb with rfl|rfl
   · exact (hbl.block _ (by omega)).trans HS5.out
   · exact (hbl.block _ (by omega)).trans HQ5.out)
 refine (wpIn_wide (n:=3)).1 (wpIn_rangeFunc_z (F:=Fence.wide) rfl (by decide) (gf:=96) (lb:=#[.pointer (some ⟨ga+1+1,0,none⟩),.pointer (some ⟨ga+1,0,none⟩)]) rfl trivial (enters_of Tryz.func96 (by kernel_rfl) rfl)
   XS.length encP (LiesP XS B) (TZ S.defs KS M (w5.heap.size+2)) (fun Z Z' A B=>Z'=Z∧Below A.heap.size A B) (RZ S.defs KS M) (fun _=>rfl) ((fun b=>b=w5.heap.size+1),(fun b=>b < B))
   (fun i Z W=>IJ S KS M B (ga+1+1) ga (w5.heap.size+2) (w5.heap.size+1) (.slice A S.defs.length k) (.string S.query) (.string S.mutation) #[.string n,.int .i64 l,.int .i64 m,.bool false,.int .i64 v.kd,.int .i64 v.nn,.string v.ss,.slice A3 v.ls.len k3,.slice A4 v.ms.len k4] Z W∧(∀ j x,j < i→XS[j]? = some x→fitsB S.defs x.tn x.tl x.tm x.v=true)∧W.heap[g3]? = some (.cells #[.bool false] 4 (0,0))∧Below w.heap.size w W∧¬ Z.1 g3)
   (fun c i W=>c=.ret∧W.cell? ⟨g3,0,none⟩=some (.bool false)∧Below w.heap.size w W∧∃ x,XS[i]? = some x∧fitsB S.defs x.tn x.tl x.tm x.v=false)
   ?hTl ?hIT ?hIr ?hIxr ?hRc ?h0 ?hseq ?hround ?hdone ?hstop)
 case hTl =>
   intro Z Z' a b ht c o hc ho
   refine (ht.mo.block c (Array.getElem?_eq_some_iff.1 ho).1 ?_).trans ho
   rintro (e|e)<;>omega
 case hIT =>
   rintro i Z Z' a b ⟨h1,h2,h3,h4,h5⟩ ht
   refine ⟨h1.t ht,h2,(ht.mo.block g3 (Array.getElem?_eq_some_iff.1 h3).1 (by omega)).trans h3,⟨ht.mo.os.trans h4.os,ht.mo.tape.trans h4.tape,ht.mo.output.trans h4.output,Nat.le_trans h4.size ht.mo.size,fun c hc=>(ht.mo.block c (Nat.lt_of_lt_of_le hc h4.size) (by omega)).trans (h4.block c hc)⟩,by rw [ht.z];exact h5⟩
 case hIr =>
   rintro i Z W o ⟨h1,h2,h3,h4,h5⟩ _
   exact ⟨h1.put (by omega) o,h2,(World.putObj_heap_other (by omega)).trans h3,low_put h4 (by omega) o,h5⟩
 case hIxr =>
   rintro c i W o ⟨h1,h2,h3,h4⟩ _
   exact ⟨h1,(World.cell?_of_block (a:=⟨g3,0,none⟩) (World.putObj_heap_other (by show g3 ≠ _;omega))).trans h2,low_put h3 (by omega) o,h4⟩
 case hRc =>
   rintro i Z Z1 Z' W W1 W3 o o' ⟨h1,_⟩ ⟨rfl,hb⟩ _ hr
   exact h1.comp (by omega) hb hr
 case h0 =>
   intro W1 hb hs1
   exact ⟨⟨IS0.out _ _ W1 ⟨rfl,.inr rfl⟩ hb hs1,fun b h=>.inl h,rfl⟩,fun j x hj=>absurd hj (by omega),(hb.block g3 (by omega)).trans hr3,LW.out.trans (hb.mono LW.out.size),by show ¬ g3=_;omega⟩
 case hseq =>
   intro W1 J Jx hb hs1 hJ hY hJ0
   have hTV1:=TS.low (hb.mono (by omega)) TVV.out
   exact iter_in 2 (by decide) S KS hKS HZ.out M B (ga+1+1) (ga+1) (.slice A S.defs.length k) (.string S.query) (.string S.mutation) ⟨n,l,m,false,v⟩ A3 A4 k3 k4 XS HX.out HSL.out hN (w5.heap.size+2) (w5.heap.size+1) J Jx hJ hY _ W1 hs1.symm hJ0 (IS0.out _ _ W1 ⟨rfl,.inl rfl⟩ hb hs1) (pl_ts' hnm hTV1)
 case hround =>
   rintro i x Z W hi ⟨h1,h2,h3,h4,h5⟩ ⟨y,hy,hT⟩ hlt
   obtain ⟨E3,j3,E4,j4,rfl,htn,hTv⟩:=pl_cells hT
   have f1:M < w5.heap.size:=by omega
   have f2:g3 < w5.heap.size∧g3 < M:=by omega
   have f3:w.heap.size≤w5.heap.size∧B≤w5.heap.size∧w.heap.size≤g3∧w.heap.size≤M:=by omega
   clear hsz5 hMr hg3lt
   have e0:∀ z,(#[19].zip (encP z))=#[(19,.agg z.toArray)]:=fun z=>by simp [encP]
   simp only [e0]
   gi_wp2
   have hb9:=dbelow_new W (.cells #[.string y.tn,.int .i64 y.tl,.int .i64 y.tm,.bool y.has,.int .i64 y.v.kd,.int .i64 y.v.nn,.string y.v.ss,.slice E3 y.v.ls.len j3,.slice E4 y.v.ms.len j4] 86)
   have i9:=heap_alloc_new W (.cells #[.string y.tn,.int .i64 y.tl,.int .i64 y.tm,.bool y.has,.int .i64 y.v.kd,.int .i64 y.v.nn,.string y.v.ss,.slice E3 y.v.ls.len j3,.slice E4 y.v.ms.len j4] 86)
   generalize W.alloc (.cells #[.string y.tn,.int .i64 y.tl,.int .i64 y.tm,.bool y.has,.int .i64 y.v.kd,.int .i64 y.v.nn,.string y.v.ss,.slice E3 y.v.ls.len j3,.slice E4 y.v.ms.len j4] 86)=V at hb9 i9 ⊢
   have hbW:w5.heap.size+2≤W.heap.size:=h1.ie.hbase
   have hj:=h1.below hb9
   have h3v:=(hb9.block g3 (Array.getElem?_eq_some_iff.1 h3).1).trans h3
   have h4v:=h4.trans (hb9.mono h4.size)
   refine ⟨Z,TZ.of_below h1.ie.ok.lt h1.ie.ok.ok.lt hb9,⟨rfl,hb9⟩,⟨hj,h2,h3v,h4v,h5⟩,fun o=>?_⟩
   have hp:=hj.put (by omega) o
   have i9p:=(World.putObj_heap_other (w:=V) (r:=w5.heap.size+1) (o:=o) (show W.heap.size ≠ w5.heap.size+1 by omega)).trans i9
   have h3p:=(World.putObj_heap_other (w:=V) (r:=w5.heap.size+1) (o:=o) (show g3 ≠ w5.heap.size+1 by omega)).trans h3v
   have h4p:=low_put h4v (d:=w5.heap.size+1) (by omega) o
   have hTp:TS (V.putObj (w5.heap.size+1) o) (fun b=>b < B) (encV y.v) [.int .i64 y.v.kd,.int .i64 y.v.nn,.string y.v.ss,.slice E3 y.v.ls.len j3,.slice E4 y.v.ms.len j4]:=TS.keep (fun b hb=>⟨hb,(World.putObj_heap_other (by omega)).trans (hb9.block b (by omega))⟩) _ _ hTv
   generalize V.putObj (w5.heap.size+1) o=V1 at hp i9p h3p h4p hTp ⊢
   generalize W.heap.size=gb at i9p ⊢
   have hsy:=HSL.out y (List.mem_of_getElem? hy)
   have FC:=Hd (fits_any S y.tn y.tl y.tm y.has y.v (.slice A S.defs.length k) (.string S.query) (.string S.mutation) E3 E4 j3 j4 V1 B M (XU Z.2 V1) KS hBM (fun b h=>h.1) ⟨hp.ie.ok.ok.lt,hp.ie.ok.no⟩ (fun b hb h=>h.2 (hp.ie.uB b hb)) hsy.1 hKS (by unfold maxLen;exact htn) HZ.out hsy.2.1 hsy.2.2 hp.ie.sch hTp hp.ie.ok.xu)
   have HP:=Hd hp
   have H2:=Hd h2
   have HY:=Hd hy
   have H4:=Hd h4p
   have H3:=Hd h3p
   obtain ⟨x0,x1,x2,x3⟩:=four_cells hp.ie.sbox
   obtain ⟨⟨y0,y1,y2,y3,y4,y5,y6,y7,y8⟩,_⟩:=nine_cells i9p
   have hd1:w5.heap.size+1 < V1.heap.size:=hp.ie.zlt _ hp.zd
   have hg31:g3 < V1.heap.size:=(Array.getElem?_eq_some_iff.1 h3p).1
   clear hp h2 hy h4p h3p hTp i9p hsy hj h3v h4v i9 hb9 h1 h3 h4 hTv hT
   obtain ⟨bf,hbf⟩:∃ b,fitsB S.defs y.tn y.tl y.tm y.v=b:=⟨_,rfl⟩
   rw [hbf] at FC
   cases bf
   · gi_wp2
     refine ⟨trivial,(CallsIn.inRound _ (callsIn_wide.2 FC.out)).mono ?_⟩
     rintro e V2 ⟨rfl,hm,ho⟩
     obtain ⟨q0,q1⟩:=one_box ((hm.block g3 hg31 (by omega)).trans H3.out)
     have HM:=Hd hm
     clear hm ho
     gi_wp2
     have hm:=HM.out
     refine ⟨⟨?_,?_⟩,rfl,World.cell?_setCell_same' _ _ _ (by rw [q0];rfl),(MoX.low H4.out hm (by omega) (Nat.le_refl _)).setCell (p:=⟨g3,0,none⟩) (by show _≤g3;omega) _,y,HY.out,hbf⟩
     · exact (Below.heap_setCell _ _ _ _ (by show _ ≠ g3;omega)).trans (hm.block _ hd1 (by omega))
     · exact (Below.heap_setCell _ _ _ _ (by show _ ≠ g3;omega)).trans (hm.block _ (by omega) (by omega))
   · gi_wp2
     refine ⟨trivial,(CallsIn.inRound _ (callsIn_wide.2 FC.out)).mono ?_⟩
     rintro e V2 ⟨rfl,hm,ho⟩
     have HM:=Hd hm
     have HO:=Hd ho
     clear hm ho
     gi_wp2
     have hm:=HM.out
     have ho:=HO.out
     have hr:=RZ.of_cache HP.out hm ho
     refine ⟨⟨hm.block _ hd1 (by omega),hm.block _ (by omega) (by omega)⟩,_,⟨HP.out.r hr HP.out.zd,fun j x hj hx=>?_,(hm.block g3 hg31 (by omega)).trans H3.out,MoX.low H4.out hm (by omega) (Nat.le_refl _),h5⟩,hr⟩
     rcases Nat.lt_or_ge j i with hl|hl
     · exact H2.out j x hl hx
     · obtain rfl:j=i:=by omega
       have e:=HY.out
       rw [hx] at e
       obtain rfl:=Option.some.inj e
       exact hbf
 case hdone =>
   rintro Z W ⟨h1,h2,h3,h4,h5⟩ hK
   obtain ⟨q0,q1⟩:=one_box h3
   go_wp2_with fail
   have hc:=World.cell?_setCell_same' W ⟨g3,0,none⟩ (.bool true) (by rw [q0];rfl)
   refine postM_mark (D:=w5.heap.size) rfl ((Below.heap_setCell _ _ _ _ (by show w5.heap.size ≠ g3;omega)).trans hK) (fun w' hb=>res_bool rfl rfl ((World.cell?_of_block (a:=⟨g3,0,none⟩) (hb g3 (by omega))).trans hc)) (fun w' e1 e2 e3 e4 hb=>⟨?_,?_⟩)
   · unfold rightL
     rw [hbg,← HX.out,List.all_eq_true.2 (fun x hx=>by
       obtain ⟨j,hj⟩:=List.mem_iff_getElem?.1 hx
       exact h2 j x (List.getElem?_eq_some_iff.1 hj).1 hj)]
     rfl
   · have h6:=h4.setCell (p:=⟨g3,0,none⟩) (by show _≤g3;omega) (.bool true)
     exact ⟨e1.trans h6.os,e2.trans h6.tape,e3.trans h6.output,by rw [e4];exact h6.size,fun b hb'=>(hb b (by omega)).trans (h6.block b hb')⟩
 case hstop =>
   rintro c i W hi ⟨rfl,h3,h4,x,hx,hf⟩ hK
   refine wpIn_wide.2 ?_
   have q0:=h3
   go_wp2_with fail
   refine postM_mark (D:=w5.heap.size) rfl hK (fun w' hb=>res_bool rfl rfl ((World.cell?_of_block (a:=⟨g3,0,none⟩) (hb g3 (by omega))).trans q0)) (fun w' e1 e2 e3 e4 hb=>⟨?_,?_⟩)
   · have hr:rightL S.defs ⟨n,l,m,false,v⟩=false:=by
       unfold rightL
       rw [← HX.out,Bool.and_eq_false_iff]
       refine .inr (Bool.eq_false_iff.2 fun h=>?_)
       have:=List.all_eq_true.1 h x (List.mem_of_getElem? hx)
       rw [hf] at this
       cases this
     rw [hr]
   · exact ⟨e1.trans h4.os,e2.trans h4.tape,e3.trans h4.output,by rw [e4];exact h4.size,fun b hb'=>(hb b (by omega)).trans (h4.block b hb')⟩
attribute [local go_sem] Oper.semAt_some
section
variable {S:SchT} {KS:List ByteArray} {M B pb sb base d:Nat} {c0 c1 c2:Value} {pcs:Array Value} {G:Gh} {W W6:World}
end
theorem par_at {w:World} {B:Nat} {l:List VarT} {A:Option Addr} {q:Nat} {x:VarT} (h:RowT w (fun b=>b < B) (rowOf encVar l) A) (hx:l[q]? = some x) :
  ∃ b p d0 d1 d2 d3 d4,A=some ⟨b,p,none⟩∧b < B∧w.cell? ⟨b,p+q*10,none⟩=some (.string x.name)∧Five w b (p+q*10+5) d0 d1 d2 d3 d4∧VAt w B x.v d0 d1 d2 d3 d4:=by
 obtain ⟨b,p,cs,e,hb,hc,h1⟩:=rowOf_at 10 (fun x=>by unfold encVar;simp only [TrS.len,encV_len]) h hx
 simp only [encVar,TS,TP] at h1
 obtain ⟨c0,_,rfl,⟨rfl,_⟩,c1,_,rfl,⟨rfl,_⟩,c2,_,rfl,⟨rfl,_⟩,c3,_,rfl,⟨rfl,_⟩,c4,ys,rfl,⟨rfl,_⟩,h2⟩:=h1
 obtain ⟨d0,d1,d2,d3,d4,rfl,hv⟩:=ts_vp _ _ h2
 exact ⟨b,p,d0,d1,d2,d3,d4,e,hb,hc 0 _ rfl,⟨hc 5 _ rfl,hc 6 _ rfl,hc 7 _ rfl,hc 8 _ rfl,hc 9 _ rfl⟩,VP.at (fun _ h=>h) _ _ _ _ _ _ hv⟩
def K6 (w:World) (b O:Nat) (nm d0 d1 d2 d3 d4:Value) (W:World):Prop:=W.cell? ⟨b,O,none⟩=some nm∧Five W b (O+5) d0 d1 d2 d3 d4∧Below w.heap.size w W
theorem K6.next {w W W':World} {b O:Nat} {nm d0 d1 d2 d3 d4:Value} (h:K6 w b O nm d0 d1 d2 d3 d4 W) (hl:b < w.heap.size) (hb:Below W.heap.size W W'):K6 w b O nm d0 d1 d2 d3 d4 W':=by
 obtain ⟨hn,hF,hK⟩:=h
 have g:=Nat.lt_of_lt_of_le hl hK.size
 exact ⟨(hb.cell (p:=⟨b,_,none⟩) g).trans hn,hF.below hb g,hK.trans (hb.mono hK.size)⟩
theorem K6.written {w W:World} {b O:Nat} {nm d0 d1 d2 d3 d4:Value} (h:K6 w b O nm d0 d1 d2 d3 d4 W):W.cell? ⟨b,O,none⟩=some nm∧W.cell? ⟨b,O+5,none⟩=some d0∧W.cell? ⟨b,O+5+1,none⟩=some d1∧W.cell? ⟨b,O+5+2,none⟩=some d2∧W.cell? ⟨b,O+5+3,none⟩=some d3∧W.cell? ⟨b,O+5+4,none⟩=some d4∧K6 w b O nm d0 d1 d2 d3 d4 W:=
 ⟨h.1,h.2.1.1,h.2.1.2.1,h.2.1.2.2.1,h.2.1.2.2.2.1,h.2.1.2.2.2.2,h⟩
theorem K6.below {w W:World} {b O:Nat} {nm d0 d1 d2 d3 d4:Value} (h:K6 w b O nm d0 d1 d2 d3 d4 W):Below w.heap.size w W:=h.2.2
def K2 (w:World) (b O:Nat) (nm v:Value) (W:World):Prop:=W.cell? ⟨b,O,none⟩=some nm∧W.cell? ⟨b,O+1,none⟩=some v∧Below w.heap.size w W
theorem K2.next {w W W':World} {b O:Nat} {nm v:Value} (h:K2 w b O nm v W) (hl:b < w.heap.size) (hb:Below W.heap.size W W'):K2 w b O nm v W':=by
 obtain ⟨hn,hF,hK⟩:=h
 have g:=Nat.lt_of_lt_of_le hl hK.size
 exact ⟨(hb.cell (p:=⟨b,_,none⟩) g).trans hn,(hb.cell (p:=⟨b,_,none⟩) g).trans hF,hK.trans (hb.mono hK.size)⟩
theorem K2.written {w W:World} {b O:Nat} {nm v:Value} (h:K2 w b O nm v W):W.cell? ⟨b,O,none⟩=some nm∧W.cell? ⟨b,O+1,none⟩=some v∧K2 w b O nm v W:=⟨h.1,h.2.1,h⟩
theorem K2.below {w W:World} {b O:Nat} {nm v:Value} (h:K2 w b O nm v W):Below w.heap.size w W:=h.2.2
theorem field_at {w:World} {P:Nat→Prop} {l:List FieldT} {A:Option Addr} {q:Nat} {d:FieldT} (h:RowT w P (rowOf encField l) A) (hx:l[q]? = some d) :
  ∃ b p c0 c1 c2 c3 c4 c5,A=some ⟨b,p,none⟩∧P b∧(w.cell? ⟨b,p+q*6,none⟩=some c0∧w.cell? ⟨b,p+q*6+1,none⟩=some c1∧w.cell? ⟨b,p+q*6+2,none⟩=some c2∧w.cell? ⟨b,p+q*6+3,none⟩=some c3∧w.cell? ⟨b,p+q*6+4,none⟩=some c4∧w.cell? ⟨b,p+q*6+5,none⟩=some c5)∧TS w P (encField d) [c0,c1,c2,c3,c4,c5]:=by
 obtain ⟨b,p,cs,e,hb,hc,h1⟩:=rowOf_at 6 (fun _=>rfl) h hx
 obtain ⟨Ap,kp,Ad,kd,rfl,_⟩:=fld_cells h1
 exact ⟨b,p,_,_,_,_,_,_,e,hb,⟨hc 0 _ rfl,hc 1 _ rfl,hc 2 _ rfl,hc 3 _ rfl,hc 4 _ rfl,hc 5 _ rfl⟩,h1⟩
def QD (wz:World) (g:Nat) (c1 c2 c4 c5:Value) (W:World):Prop:=W.cell? ⟨g,1,none⟩=some c1∧W.cell? ⟨g,2,none⟩=some c2∧W.cell? ⟨g,4,none⟩=some c4∧W.cell? ⟨g,5,none⟩=some c5∧Below wz.heap.size wz W
theorem QD.next {wz W W':World} {g:Nat} {c1 c2 c4 c5:Value} (h:QD wz g c1 c2 c4 c5 W) (hl:g < wz.heap.size) (hb:Below W.heap.size W W'):QD wz g c1 c2 c4 c5 W':=by
 obtain ⟨h1,h2,h4,h5,hK⟩:=h
 have q:=Nat.lt_of_lt_of_le hl hK.size
 exact ⟨(hb.cell (p:=⟨g,_,none⟩) q).trans h1,(hb.cell (p:=⟨g,_,none⟩) q).trans h2,(hb.cell (p:=⟨g,_,none⟩) q).trans h4,(hb.cell (p:=⟨g,_,none⟩) q).trans h5,hK.trans (hb.mono hK.size)⟩
theorem QD.written {wz W:World} {g:Nat} {c1 c2 c4 c5:Value} (h:QD wz g c1 c2 c4 c5 W):W.cell? ⟨g,1,none⟩=some c1∧W.cell? ⟨g,2,none⟩=some c2∧W.cell? ⟨g,4,none⟩=some c4∧W.cell? ⟨g,5,none⟩=some c5∧QD wz g c1 c2 c4 c5 W:=⟨h.1,h.2.1,h.2.2.1,h.2.2.2.1,h⟩
theorem QD.below {wz W:World} {g:Nat} {c1 c2 c4 c5:Value} (h:QD wz g c1 c2 c4 c5 W):Below wz.heap.size wz W:=h.2.2.2.2
theorem QD.held {wz W:World} {g:Nat} {c1 c2 c4 c5:Value} {p1 p2 p3 p4:Prop} (h:p1∧p2∧p3∧p4∧QD wz g c1 c2 c4 c5 W):Below wz.heap.size wz W:=h.2.2.2.2.below
theorem QD.last {wz W:World} {g:Nat} {c1 c2 c4 c5:Value} {p1 p2 p3 p4:Prop} (h:p1∧p2∧p3∧p4∧QD wz g c1 c2 c4 c5 W):QD wz g c1 c2 c4 c5 W:=h.2.2.2.2
def QE (wz:World) (g:Nat) (c3:Value) (b O:Nat) (nm v1 v5:Value) (W:World):Prop:=W.cell? ⟨g,3,none⟩=some c3∧W.cell? ⟨b,O,none⟩=some nm∧W.cell? ⟨b,O+1,none⟩=some v1∧W.cell? ⟨b,O+5,none⟩=some v5∧Below wz.heap.size wz W
theorem QE.next {wz W W':World} {g b O:Nat} {c3 nm v1 v5:Value} (h:QE wz g c3 b O nm v1 v5 W) (hl:g < wz.heap.size) (hl2:b < wz.heap.size) (hb:Below W.heap.size W W'):QE wz g c3 b O nm v1 v5 W':=by
 obtain ⟨h1,h2,h4,h5,hK⟩:=h
 have q:=Nat.lt_of_lt_of_le hl hK.size
 have q2:=Nat.lt_of_lt_of_le hl2 hK.size
 exact ⟨(hb.cell (p:=⟨g,_,none⟩) q).trans h1,(hb.cell (p:=⟨b,_,none⟩) q2).trans h2,(hb.cell (p:=⟨b,_,none⟩) q2).trans h4,(hb.cell (p:=⟨b,_,none⟩) q2).trans h5,hK.trans (hb.mono hK.size)⟩
theorem QE.written {wz W:World} {g b O:Nat} {c3 nm v1 v5:Value} (h:QE wz g c3 b O nm v1 v5 W):W.cell? ⟨g,3,none⟩=some c3∧W.cell? ⟨b,O,none⟩=some nm∧W.cell? ⟨b,O+1,none⟩=some v1∧W.cell? ⟨b,O+5,none⟩=some v5∧QE wz g c3 b O nm v1 v5 W:=⟨h.1,h.2.1,h.2.2.1,h.2.2.2.1,h⟩
theorem QE.below {wz W:World} {g b O:Nat} {c3 nm v1 v5:Value} (h:QE wz g c3 b O nm v1 v5 W):Below wz.heap.size wz W:=h.2.2.2.2
theorem QE.last {wz W:World} {g b O:Nat} {c3 nm v1 v5:Value} {p1 p2 p3 p4:Prop} (h:p1∧p2∧p3∧p4∧QE wz g c3 b O nm v1 v5 W):QE wz g c3 b O nm v1 v5 W:=h.2.2.2.2
theorem QE.held {wz W:World} {g b O:Nat} {c3 nm v1 v5:Value} {p1 p2 p3 p4:Prop} (h:p1∧p2∧p3∧p4∧QE wz g c3 b O nm v1 v5 W):Below wz.heap.size wz W:=h.2.2.2.2.below
theorem within_sz {D:List DefnT} {p x:PlT} (h:x ∈ withinL D p):szV x.v≤szV p.v:=by
 obtain ⟨tn,tl,tm,hs,k,nn,s,l,m⟩:=p
 have hv:szV (.mk k nn s l m)=1+szL l+szM m:=by rw [szV]
 unfold withinL at h
 dsimp only at h ⊢
 split at h
 · simp at h
 · split at h
   · split at h
     · unfold elemsL at h
       obtain ⟨v,hv',rfl⟩:=List.mem_map.1 h
       have h1:szV v≤szL l:=szL_mem hv'
       show szV v≤_
       omega
     · obtain rfl:=List.mem_singleton.1 h
       exact Nat.le_refl _
   · split at h
     · unfold memsL at h
       obtain ⟨y,hy,hx⟩:=List.mem_flatMap.1 h
       have h1:szV y.2≤szM m:=szM_mem hy
       split at hx
       · obtain rfl:=List.mem_singleton.1 hx
         show szV y.2≤_
         omega
       · simp at hx
     · simp at h
theorem allP_sz (D:List DefnT):∀ (n:Nat) (p:PlT),msr p≤n→∀ x,x ∈ allP D p→szV x.v≤szV p.v
 | n,p,hn,x,hx=>by
   rw [allP_eq] at hx
   rcases List.mem_cons.1 hx with rfl|hx
   · exact Nat.le_refl _
   · obtain ⟨y,hy,hx⟩:=List.mem_flatMap.1 hx
     have h1:=within_msr hy
     have h2:=within_sz hy
     cases n with
     | zero=>omega
     | succ n=>exact Nat.le_trans (allP_sz D n y (by omega) x hx) h2
theorem ls_sz:∀ l:VL,l.len≤szL l
 | .nil=>by rw [VL.len];omega
 | .cons v t=>by
   have:=ls_sz t
   have:=szV_pos v
   rw [VL.len,szL]
   omega
theorem ms_sz:∀ l:VM,l.len≤szM l
 | .nil=>by rw [VM.len];omega
 | .cons n v t=>by
   have:=ms_sz t
   have:=szV_pos v
   rw [VM.len,szM]
   omega
mutual
theorem sz_size:∀ v:VT,szV v≤sizeV v
 | .mk k n s l m=>by
   have:=szL_size l
   have:=szM_size m
   rw [szV,sizeV]
   omega
theorem szL_size:∀ l:VL,szL l≤sizeL l
 | .nil=>by rw [szL];omega
 | .cons v t=>by
   have:=sz_size v
   have:=szL_size t
   rw [szL,sizeL]
   omega
theorem szM_size:∀ l:VM,szM l≤sizeM l
 | .nil=>by rw [szM];omega
 | .cons n v t=>by
   have:=sz_size v
   have:=szM_size t
   rw [szM,sizeM]
   omega
end
theorem slim_all (D:List DefnT) (p:PlT) (h:szV p.v≤1100000):∀ x,x ∈ allP D p→SlimP ((allP D p).map (·.tn)) x:=fun x hx=>by
 have h1:=allP_sz D _ p (Nat.le_refl _) x hx
 obtain ⟨tn,tl,tm,hs,k,nn,s,l,m⟩:=x
 have hv:szV (.mk k nn s l m)=1+szL l+szM m:=by rw [szV]
 have h2:=ls_sz l
 have h3:=ms_sz m
 have h1:szV (.mk k nn s l m)≤szV p.v:=h1
 refine ⟨List.mem_map.2 ⟨_,hx,rfl⟩,?_,?_⟩
 · show m.len*120≤_;omega
 · show l.len*80≤_;omega
theorem right_gen (S:SchT) (n:ByteArray) (l m:Int) (v:VT) (c0 c1 c2:Value) (A3 A4:Option Addr) (k3 k4:Nat) (w:World) (B:Nat) (hB:B≤w.heap.size) (hw:Laid5 w) (hz:SlimS S) (hvz:sizeV v≤1100000) (hnm:n.size≤9223372036854775807)
  (hS:TS w (fun b=>b < B) (encSch S) [c0,c1,c2]) (hV:TS w (fun b=>b < B) (encV v) [.int .i64 v.kd,.int .i64 v.nn,.string v.ss,.slice A3 v.ls.len k3,.slice A4 v.ms.len k4]) :
  Calls Tryz.prog 24 #[.agg #[c0,c1,c2],.agg #[.string n,.int .i64 l,.int .i64 m],.agg #[.int .i64 v.kd,.int .i64 v.nn,.string v.ss,.slice A3 v.ls.len k3,.slice A4 v.ms.len k4]] w fun e w'=>e=.returned (.bool (rightL S.defs ⟨n,l,m,false,v⟩))∧Below w.heap.size w w':=by
 have hs:=Nat.le_trans (sz_size v) hvz
 have hb:=allP_bd S.defs ⟨n,l,m,false,v⟩
 have hb:(allP S.defs ⟨n,l,m,false,v⟩).length≤5*szV v:=hb
 exact right_any S n l m v c0 c1 c2 A3 A4 k3 k4 w B hB hw hz hvz _ rfl _ (by rw [List.length_map];unfold maxLen;omega) (slim_all S.defs ⟨n,l,m,false,v⟩ hs) (by omega) hnm hS hV
def RowX (w:World) (lo B:Nat) (l:VL) (A:Option Addr):Prop:=∀ (j:Nat) v,l.get j=some v→∃ b o c0 c1 c2 c3 c4,A=some ⟨b,o,none⟩∧(b < B∨lo≤b)∧b < w.heap.size∧Five w b (o+j*5) c0 c1 c2 c3 c4∧VAt w B v c0 c1 c2 c3 c4
theorem RowX.of_list {w:World} {lo B:Nat} {l:VL} {A:Option Addr} (hB:B≤w.heap.size) (h:LAt w B l A 0):RowX w lo B l A:=fun j v hv=>by
 obtain ⟨b,o,c0,c1,c2,c3,c4,hA,hlt,hf,hV⟩:=LAt.at h hv
 rw [Nat.zero_add] at hf
 exact ⟨b,o,c0,c1,c2,c3,c4,hA,.inl hlt,Nat.lt_of_lt_of_le hlt hB,hf,hV⟩
theorem RowX.none {w:World} {lo B:Nat} {A:Option Addr} : RowX w lo B .nil A:=fun j v hj=>by simp [VL.get] at hj
theorem RB.rowx {base n G B lo:Nat} {l:VL} {w:World} (h:RB base n G B l w n) (hl:l.len=n) (hG:lo≤G:=by omega):RowX w lo B l (some ⟨G,0,none⟩):=by
 intro j v hj
 obtain ⟨b,o,c0,c1,c2,c3,c4,hA,hlt,hf,hV⟩:=RB.row h hl j v hj
 refine ⟨b,o,c0,c1,c2,c3,c4,hA,.inr ?_,hlt,hf,hV⟩
 injection hA with e
 injection e with e
 omega
def WithinX (v:VT):Prop:=∀ (c0 c1 c2 c3 c4:Value) (w:World) (B:Nat),B≤w.heap.size→VAt w B v c0 c1 c2 c3 c4 →
 Calls Tryz.prog 157 #[.agg #[c0,c1,c2,c3,c4]] w fun e w'=>∃ A c,e=.returned (.slice A v.kids.len c)∧RowX w' w.heap.size B v.kids A∧Below w.heap.size w w'
theorem withinx_said {w' w:World} {lo B:Nat} {v:VT} {l:VL} {A:Option Addr} {c:Nat} (hk:v.kids=l) (hr:RowX w' lo B l A) (hb:Below w.heap.size w w'):∃ A' c',Ending.returned (.slice A l.len c)=.returned (.slice A' v.kids.len c')∧RowX w' lo B v.kids A'∧Below w.heap.size w w':=
 ⟨A,c,by rw [hk],by rw [hk];exact hr,hb⟩
theorem within_x (v:VT) (hz:sizeV v≤9000):WithinX v:=by
 intro c0 c1 c2 c3 c4 w B hB hv
 obtain ⟨k,n,s,l,m⟩:=v
 have hml:m.len≤9000:=by rw [sizeV] at hz;have:=lenM_le m;omega
 unfold VAt at hv
 obtain ⟨rfl,rfl,rfl,_,⟨A,c,rfl,hl,hL⟩,A',c',rfl,hm,hM⟩:=hv
 have hb0:Below w.heap.size w (w.alloc (.cells #[.int .i64 k,.int .i64 n,.string s,.slice A l.len c,.slice A' m.len c'] 54)):=(Below.refl _ _).alloc (Nat.le_refl _) _
 have HB:=Hd hb0
 have HB0:=Hd hB
 have HL:=Hd hL
 have HM:=Hd hM
 clear hL hM hB hb0 hz
 by_cases k6:k=6
 · subst k6
   go_enter Tryz.func157,Tryz.ntmps157
   go_wp2_with fail
   go_ret
   exact withinx_said (kids_list _ _ _ _) (RowX.of_list (Nat.le_trans HB0.out HB.out.size) (LAt.below (HB.out.mono HB0.out) _ _ _ HL.out)) HB.out
 · by_cases k7:k=7
   · subst k7
     obtain ⟨i0,hi,hz0,hz1,hz2⟩:=info_parts info_val
     clear k6
     go_enter Tryz.func157,Tryz.ntmps157
     have hbox4:Hid ((w.alloc (.cells #[.int .i64 7,.int .i64 n,.string s,.slice A l.len c,.slice A' m.len c'] 54)).cell? ⟨w.heap.size,4,none⟩=some (.slice A' m.len c')):=Hd (by rw [World.cell?_alloc_at _ _ _ _ rfl];rfl)
     go_wp2_with (at_make;refine wpList_make_full _ rfl _ _ 51 rfl w.heap.size 54 i0 _ 5 Tryz.underlying51 hi hz0 hz1 .i64 .i64 _ _ m.len rfl rfl (by first|rfl|omega) (by first|rfl|omega) (by rw [hz2];omega) (by unfold maxLen;omega) (by simp) ?_;intro w2 hown hgr;have hb2:=(Below.refl _ _).grown hgr (Nat.le_refl _) (fun k h=>by cases h);have hc4:w2.cell? ⟨w.heap.size,4,none⟩=some (.slice A' m.len c'):=(hb2.cell (p:=⟨w.heap.size,4,none⟩) (by simp)).trans hbox4.out;have HB2:=Hd (HB.out.trans (hb2.mono HB.out.size));have HO:=Hd hown;clear hown hgr hb2)
     have hsz:(w.alloc (.cells #[.int .i64 7,.int .i64 n,.string s,.slice A l.len c,.slice A' m.len c'] 54)).heap.size=w.heap.size+1:=by simp
     rw [hsz] at HO
     clear hsz hc4 hbox4 HB
     go_loopg [21] m.len (fun g i wx=>∃ q:Nat,q+g=m.len∧i=.int .i64 q∧Below w.heap.size w wx∧Aside (RB w.heap.size m.len (w.heap.size+1) B m.vals wx q))
     case atStart=>exact ⟨0,by omega,rfl,HB2.out,vaside ⟨_,HO.out,fun j v hj=>absurd hj (Nat.not_lt_zero _)⟩⟩
     case round =>
      obtain ⟨q,hq,rfl,hb,HA⟩:=hrel
      have HBB:=Hd hb
      clear hb HO HB2
      cases gk with
      | zero =>
        obtain rfl:q=m.len:=by omega
        go_wp2_with fail
        go_ret
        exact ⟨some ⟨w.heap.size+1,0,none⟩,m.len,by rw [kids_map,VM.len_vals];rfl,by rw [kids_map];exact RB.rowx HA (VM.len_vals m),HBB.out⟩
      | succ g =>
        have hqn:q < m.len:=by omega
        have hqn':(q:Int) < (m.len:Int):=by omega
        obtain ⟨⟨nm,v⟩,hv⟩:=VM.get_lt hqn
        obtain ⟨b,o,d0,d1,d2,d3,d4,rfl,hblt,hnm,_,hF,hV⟩:=MAt.at (MAt.below (HBB.out.mono HB0.out) _ _ _ HM.out) hv
        rw [Nat.zero_add] at hF hnm
        have hV0:=Hd hV
        have HV:=Hd (VM.get_vals hv)
        obtain ⟨vk,vn,vs,vl,vm⟩:=v
        unfold VAt at hV
        obtain ⟨rfl,rfl,rfl,_,⟨A3,c3',rfl,_,_⟩,A4,c4',rfl,_,_⟩:=hV
        obtain ⟨f0,f1,f2,f3,f4⟩:=hF
        obtain ⟨xs,hown,hfill⟩:=HA
        have hlen:=hown.1
        obtain ⟨z0,hz0'⟩:∃ z,xs[q*5]? = some z:=⟨_,List.getElem?_eq_getElem (by omega)⟩
        obtain ⟨z1,hz1'⟩:∃ z,xs[q*5+1]? = some z:=⟨_,List.getElem?_eq_getElem (by omega)⟩
        obtain ⟨z2,hz2'⟩:∃ z,xs[q*5+2]? = some z:=⟨_,List.getElem?_eq_getElem (by omega)⟩
        obtain ⟨z3,hz3'⟩:∃ z,xs[q*5+3]? = some z:=⟨_,List.getElem?_eq_getElem (by omega)⟩
        obtain ⟨z4,hz4'⟩:∃ z,xs[q*5+4]? = some z:=⟨_,List.getElem?_eq_getElem (by omega)⟩
        have hat:=fun i u (hi:xs[i]? = some u)=>(World.ownsRow.cellAt hown i (by rw [← hlen];exact (List.getElem?_eq_some_iff.1 hi).1)).trans hi
        have y0:=hat _ _ hz0'
        have y1:=hat _ _ hz1'
        have y2:=hat _ _ hz2'
        have y3:=hat _ _ hz3'
        have y4:=hat _ _ hz4'
        have hGlt:w.heap.size+1 < wr.heap.size:=(hown.lt _ rfl).2
        have q0:=not_frozen hown (q*5)
        have q1:=not_frozen hown (q*5+1)
        have q2:=not_frozen hown (q*5+2)
        have q3:=not_frozen hown (q*5+3)
        have q4:=not_frozen hown (q*5+4)
        have HO:=Hd hown
        have HFI:=Hd hfill
        have HZ:=Hd (And.intro hz0' (And.intro hz1' (And.intro hz2' (And.intro hz3' hz4'))))
        clear hat hz0' hz1' hz2' hz3' hz4' hown hfill hlen hv
        go_wp2_with fail
        go_roundg g
        case measure=>omega
        case rel=>exact ⟨q+1,by omega,by go_num,stored_below HBB.out (Nat.le_succ _),vaside (stored_filled HB0.out HBB.out (Nat.le_succ _) HO.out HFI.out hqn HV.out hV0.out)⟩
   · have e6:(k == 6)=false:=by simpa using k6
     have e7:(k == 7)=false:=by simpa using k7
     have hk:=Hd (kids_none k n s l m k6 k7)
     clear k6 k7
     go_enter Tryz.func157,Tryz.ntmps157
     go_wp2_with fail
     go_ret
     exact withinx_said (c:=0) (A:=none) hk.out (fun j v hj=>by simp [VL.get] at hj) HB.out
end Go.Proofs.YtbgenomboagmaaaGreatDoor
