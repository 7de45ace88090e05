/- literal.Right. -/
import Derived.Test.YtaekdfcpbepepaaGreatDoorQt20
import Derived.Maps.OwnIn
set_option maxRecDepth 100000
set_option maxHeartbeats 8000000
namespace Go.Proofs.YtaekdfcpbepepaaGreatDoor
open Go.RowKit
attribute [local go_sem] Oper.semAt_some
theorem ts_vat {w:World} {B:Nat} {v:VT} {c0 c1 c2 c3 c4:Value} (h:TS w (fun b=>b < B) (encV v) [c0,c1,c2,c3,c4]):VAt w B v c0 c1 c2 c3 c4:=by
 obtain ⟨d0,d1,d2,d3,d4,e,h1⟩:=ts_vp v _ h
 cases e
 exact VP.at (fun _ h=>h) v _ _ _ _ _ h1
def R4 (W:World) (g0 g1 g2 g3:Nat) (cs ct cv:Array Value):Prop:=W.heap[g0]? = some (.cells cs 24 (0,0))∧W.heap[g1]? = some (.cells ct 43 (0,0))∧W.heap[g2]? = some (.cells cv 58 (0,0))∧W.heap[g3]? = some (.cells #[.bool false] 4 (0,0))
theorem R4.next {W W':World} {g0 g1 g2 g3:Nat} {cs ct cv:Array Value} (h:R4 W g0 g1 g2 g3 cs ct cv) (hb:Below W.heap.size W W'):R4 W' g0 g1 g2 g3 cs ct cv:=by
 obtain ⟨h0,h1,h2,h3⟩:=h
 exact ⟨(hb.block _ (Array.getElem?_eq_some_iff.1 h0).1).trans h0,(hb.block _ (Array.getElem?_eq_some_iff.1 h1).1).trans h1,(hb.block _ (Array.getElem?_eq_some_iff.1 h2).1).trans h2,(hb.block _ (Array.getElem?_eq_some_iff.1 h3).1).trans h3⟩
theorem R4.start (w:World) (cs ct cv:Array Value):R4 ((((w.alloc (.cells cs 24)).alloc (.cells ct 43)).alloc (.cells cv 58)).alloc (.cells #[.bool false] 4)) w.heap.size (w.heap.size+1) (w.heap.size+1+1) (w.heap.size+1+1+1) cs ct cv:=by
 refine ⟨?_,?_,?_,?_⟩
 · rw [Below.heap_alloc _ _ _ (by simp;omega),Below.heap_alloc _ _ _ (by simp;omega),Below.heap_alloc _ _ _ (by simp)];exact heap_alloc_new _ _
 · rw [Below.heap_alloc _ _ _ (by simp),Below.heap_alloc _ _ _ (by simp)];exact heap_two _ _ _
 · rw [Below.heap_alloc _ _ _ (by simp)]
   have:=heap_two (w.alloc (.cells cs 24)) (.cells ct 43) (.cells cv 58)
   simpa using this
 · have:=heap_two ((w.alloc (.cells cs 24)).alloc (.cells ct 43)) (.cells cv 58) (.cells #[.bool false] 4)
   simpa using this
theorem one_box {w:World} {g:Nat} {u:Value} {t:TypeId} (h:w.heap[g]? = some (.cells #[u] t (0,0))):w.cell? ⟨g,0,none⟩=some u∧w.frozen? ⟨g,0,none⟩=false:=by
 simp [World.cell?,World.frozen?,h]
theorem five_box {w:World} {g:Nat} {c0 c1 c2 c3 c4:Value} {t:TypeId} (h:w.heap[g]? = some (.cells #[c0,c1,c2,c3,c4] t (0,0))):w.cell? ⟨g,0,none⟩=some c0∧w.cell? ⟨g,1,none⟩=some c1∧w.cell? ⟨g,2,none⟩=some c2∧w.cell? ⟨g,3,none⟩=some c3∧w.cell? ⟨g,4,none⟩=some c4:=by
 simp [World.cell?,h]
theorem four_low (w:World) (a b c d:Obj):Below w.heap.size w ((((w.alloc a).alloc b).alloc c).alloc d):=((tbl w a b).alloc (by simp;omega) c).alloc (by simp;omega) d
theorem pl_ts' {w:World} {B:Nat} {n:ByteArray} {l m:Int} {hs:Bool} {v:VT} {c0 c1 c2 c3 c4:Value} (hn:n.size≤9223372036854775807) (h:TS w (fun b=>b < B) (encV v) [c0,c1,c2,c3,c4]):TS w (fun b=>b < B) (encPl ⟨n,l,m,hs,v⟩) [.string n,.int .i64 l,.int .i64 m,.bool hs,c0,c1,c2,c3,c4]:=by
 unfold encPl
 simp only [TS,TP]
 exact ⟨_,_,rfl,⟨rfl,hn⟩,_,_,rfl,⟨rfl,trivial⟩,_,_,rfl,⟨rfl,trivial⟩,_,_,rfl,⟨rfl,trivial⟩,h⟩
def rightL (D:List DefnT) (p:PlT):Bool:=fitV goodB p.v && (allP D p).all fun x=>fitsB D x.tn x.tl x.tm x.v
theorem right_any (S:SchT) (n:ByteArray) (l m:Int) (v:VT) (c0 c1 c2:Value) (A3 A4:Option Addr) (k3 k4:Nat) (w:World) (B:Nat) (hB:B≤w.heap.size) (hw:Laid5 w) (hz:SlimS S) (hvz:sizeV v≤1100000)
   (XS:List PlT) (hXS:XS=allP S.defs ⟨n,l,m,false,v⟩) (KS:List ByteArray) (hKS:KS.length≤maxLen) (hsl:∀ x,x ∈ XS→SlimP KS x) (hN:XS.length≤1099511627776) (hnm:n.size≤9223372036854775807)
   (hS:TS w (fun b=>b < B) (encSch S) [c0,c1,c2]) (hV:TS w (fun b=>b < B) (encV v) [.int .i64 v.kd,.int .i64 v.nn,.string v.ss,.slice A3 v.ls.len k3,.slice A4 v.ms.len k4]) :
   Calls Tryz.prog 115 #[.agg #[c0,c1,c2],.agg #[.string n,.int .i64 l,.int .i64 m],.agg #[.int .i64 v.kd,.int .i64 v.nn,.string v.ss,.slice A3 v.ls.len k3,.slice A4 v.ms.len k4]] w fun e w'=>e=.returned (.bool (rightL S.defs ⟨n,l,m,false,v⟩))∧Below w.heap.size w w':=by
 obtain ⟨A,k,e,_⟩:=sch_cells hS
 injection e with e0 e
 injection e with e1 e
 injection e with e2 e
 subst e0 e1 e2
 have GD:=Hd (fun (wx:World) (hb:Below w.heap.size w wx)=>vgood_any v hvz _ _ _ _ _ wx B (Nat.le_trans hB hb.size) (ts_vat (TS.low (hb.mono hB) hV)) (hw.below hb))
 have HS:=Hd hS
 have HV:=Hd hV
 have HSL:=Hd hsl
 have HX:=Hd hXS
 have HZ:=Hd hz
 clear hw hS hV hsl hXS hz
 refine callsIn_wide.1 (callsIn_of_wp_marks (F:=Fence.wide) (n:=3) Tryz.func115 rfl trivial ?_)
 simp only [Tryz.ntmps115,List.size_toArray,List.length_cons,List.length_nil,Nat.reduceAdd,Nat.reduceSub,Array.replicate_succ,Array.replicate_zero,List.push_toArray,List.append_toArray,List.nil_append,List.cons_append]
 refine wpIn_wide.2 ?_
 go_upto_region 1 with fail
 have R0:=Hd (R4.start w #[.slice A S.defs.length k,.string S.query,.string S.mutation] #[.string n,.int .i64 l,.int .i64 m] #[.int .i64 v.kd,.int .i64 v.nn,.string v.ss,.slice A3 v.ls.len k3,.slice A4 v.ms.len k4])
 have B0:=Hd (four_low w (.cells #[.slice A S.defs.length k,.string S.query,.string S.mutation] 24) (.cells #[.string n,.int .i64 l,.int .i64 m] 43) (.cells #[.int .i64 v.kd,.int .i64 v.nn,.string v.ss,.slice A3 v.ls.len k3,.slice A4 v.ms.len k4] 58) (.cells #[.bool false] 4))
 generalize (((w.alloc (.cells #[.slice A S.defs.length k,.string S.query,.string S.mutation] 24)).alloc (.cells #[.string n,.int .i64 l,.int .i64 m] 43)).alloc (.cells #[.int .i64 v.kd,.int .i64 v.nn,.string v.ss,.slice A3 v.ls.len k3,.slice A4 v.ms.len k4] 58)).alloc (.cells #[.bool false] 4)=w1 at R0 B0 ⊢
 generalize hg3:w.heap.size+1+1+1=g3 at R0 ⊢
 generalize hg2:w.heap.size+1+1=g2 at R0 ⊢
 generalize hg1:w.heap.size+1=g1 at R0 ⊢
 have HG:=Hd (And.intro hg1 (And.intro hg2 hg3))
 clear hg1 hg2 hg3
 obtain ⟨x0,x1,x2,x3,x4⟩:=five_box R0.out.2.2.1
 go_wp2_with fail
 refine (GD.out _ B0.out).mono ?_
 rintro e w2 ⟨rfl,hb2⟩
 have R2:=Hd (R0.out.next hb2)
 have R2K:=Hd R2.out.2.2.2
 have B2:=Hd (B0.out.trans (hb2.mono B0.out.size))
 clear x0 x1 x2 x3 x4 R0 hb2 B0 GD
 obtain ⟨q0,q1⟩:=one_box R2.out.2.2.2
 obtain ⟨bg,hbg⟩:∃ b,fitV goodB v=b:=⟨_,rfl⟩
 rw [hbg]
 cases bg
 · go_wp2_with fail
   have hg:=HG.out
   refine postM_ret (res_bool rfl rfl (World.cell?_setCell_same' _ _ _ (by rw [q0];rfl))) rfl ⟨by unfold rightL;rw [hbg];rfl,B2.out.setCell (p:=⟨g3,0,none⟩) (by show _≤g3;omega) _⟩
 obtain ⟨y0,y1,y2⟩:=three_cells R2.out.1
 have AK:=Hd (fun (wx:World)=>ask_any A S.defs.length k S.query S.mutation wx)
 go_wp2_with fail
 refine (AK.out _).mono ?_
 rintro e w3 ⟨M,rfl,hb3,hM3,hO3⟩
 have R3:=Hd (R2.out.next hb3)
 have B3:=Hd (B2.out.trans (hb3.mono B2.out.size))
 have HM:=Hd hM3
 have HO:=Hd hO3
 clear q0 q1 y0 y1 y2 R2 hb3 B2 AK hM3 hO3
 go_upto_region 4 with fail
 have A4:=heap_alloc_new w3 (.cells #[.slice A S.defs.length k,.string S.query,.string S.mutation,.map (some M)] 157)
 have D4:=Hd (dbelow_new w3 (.cells #[.slice A S.defs.length k,.string S.query,.string S.mutation,.map (some M)] 157))
 have Z4:(w3.alloc (.cells #[.slice A S.defs.length k,.string S.query,.string S.mutation,.map (some M)] 157)).heap.size=w3.heap.size+1:=by simp
 generalize w3.alloc (.cells #[.slice A S.defs.length k,.string S.query,.string S.mutation,.map (some M)] 157)=w4 at A4 D4 Z4 ⊢
 have R4':=Hd (R3.out.next D4.out)
 have HZ4:=Hd Z4
 have HA4:=Hd A4
 obtain ⟨ga,hga⟩:∃ g,w3.heap.size=g:=⟨_,rfl⟩
 have HGA:=Hd hga
 rw [hga] at A4 ⊢
 clear hga Z4
 obtain ⟨x0,x1,x2,x3⟩:=four_cells A4
 obtain ⟨y0,y1,y2⟩:=three_cells R4'.out.2.1
 obtain ⟨z0,z1,z2,z3,z4⟩:=five_box R4'.out.2.2.1
 clear A4
 have PLC:=Hd (fun (wx:World)=>places_any A A3 A4 S.defs.length k M S.query S.mutation n v.ss l m v.kd v.nn false v.ls.len k3 v.ms.len k4 wx)
 go_wp2_with fail
 refine (PLC.out _).mono ?_
 rintro e w5 ⟨rfl,hw5⟩
 have HW5:=Hd hw5
 clear hw5 PLC x0 x1 x2 x3 y0 y1 y2 z0 z1 z2 z3 z4
 go_wp2_with fail
 have hsz5:w5.heap.size=ga+3:=by rw [HW5.out];simp;have h1:=HZ4.out;have h2:=HGA.out;omega
 have L45:Below w4.heap.size w4 w5:=by rw [HW5.out];exact tbl _ _ _
 have S5:w5.heap[w4.heap.size]? = some (.cells #[.slice A S.defs.length k,.string S.query,.string S.mutation,.map (some M)] 157 (0,0)):=by rw [HW5.out,Below.heap_alloc _ _ _ (by simp)];exact heap_alloc_new _ _
 have P5:w5.heap[w4.heap.size+1]? = some (.cells #[.string n,.int .i64 l,.int .i64 m,.bool false,.int .i64 v.kd,.int .i64 v.nn,.string v.ss,.slice A3 v.ls.len k3,.slice A4 v.ms.len k4] 163 (0,0)):=by rw [HW5.out];exact heap_two _ _ _
 have R5:=Hd (R4'.out.next L45)
 have Q5:w5.heap[ga]? = some (.cells #[.slice A S.defs.length k,.string S.query,.string S.mutation,.map (some M)] 157 (0,0)):=by
   have h1:=HA4.out
   rw [HGA.out] at h1
   exact (L45.block ga (Array.getElem?_eq_some_iff.1 h1).1).trans h1
 have hga3:w3.heap.size=ga:=HGA.out
 have hsz4:w4.heap.size=ga+1:=by have:=HZ4.out;omega
 have hg3lt:g3 < w2.heap.size∧w.heap.size≤g3:=⟨(Array.getElem?_eq_some_iff.1 R2K.out).1,by have:=HG.out;omega⟩
 have hMr:w2.heap.size≤M∧M < ga:=⟨HM.out,by have:=(HO.out [] (fun _=>False) []).lt;omega⟩
 have LW:=Hd (B3.out.trans ((D4.out.mono B3.out.size).trans (L45.mono (by have:=B3.out.size;omega))))
 have O5:=Hd (fun (X:Nat→Prop)=>((HO.out S.defs X KS).low D4.out).low L45)
 rw [hsz4] at S5 P5 ⊢
 have HS5:=Hd S5
 have HP5:=Hd P5
 have HQ5:=Hd Q5
 clear S5 P5 Q5 HW5 HA4 HZ4 HGA HM HO D4 R3 B3 R4' L45 hsz4 hga3 R2K
 have hBM:B≤M:=by omega
 obtain ⟨b0,hb0⟩:∃ b,w5.heap.size+2=b:=⟨_,rfl⟩
 have hr3:=R5.out.2.2.2
 have TSC:=Hd (TS.low (LW.out.mono hB) HS.out)
 have TVV:=Hd (TS.low (LW.out.mono hB) HV.out)
 have IS0:Hid (∀ pb sb W1,(pb=ga+1+1∧(sb=ga+1∨sb=ga))→Below w5.heap.size w5 W1→W1.heap.size=w5.heap.size+2→IE S KS M B pb sb (w5.heap.size+2) (.slice A S.defs.length k) (.string S.query) (.string S.mutation) #[.string n,.int .i64 l,.int .i64 m,.bool false,.int .i64 v.kd,.int .i64 v.nn,.string v.ss,.slice A3 v.ls.len k3,.slice A4 v.ms.len k4] (fun b=>b=w5.heap.size+1,fun b=>b < B) W1):=Hd (by
   rintro pb sb W1 ⟨rfl,hsb⟩ hbl hsl1
   refine IE.start _ hBM (by omega) (by omega) (fun b hb=>by subst hb;omega) (by omega) (by omega) ((O5.out _).low hbl) ((hbl.block _ (by omega)).trans HP5.out) ?_ (TS.low (hbl.mono (by omega)) TSC.out)
   rcases hsb with rfl|rfl
   · exact (hbl.block _ (by omega)).trans HS5.out
   · exact (hbl.block _ (by omega)).trans HQ5.out)
 refine (wpIn_wide (n:=3)).1 (wpIn_rangeFunc_z (F:=Fence.wide) rfl (by decide) (gf:=178) (lb:=#[.pointer (some ⟨ga+1+1,0,none⟩),.pointer (some ⟨ga+1,0,none⟩)]) rfl trivial (enters_of Tryz.func178 (by kernel_rfl) rfl)
   XS.length encP (LiesP XS B) (TZ S.defs KS M (w5.heap.size+2)) (fun Z Z' A B=>Z'=Z∧Below A.heap.size A B) (RZ S.defs KS M) (fun _=>rfl) ((fun b=>b=w5.heap.size+1),(fun b=>b < B))
   (fun i Z W=>IJ S KS M B (ga+1+1) ga (w5.heap.size+2) (w5.heap.size+1) (.slice A S.defs.length k) (.string S.query) (.string S.mutation) #[.string n,.int .i64 l,.int .i64 m,.bool false,.int .i64 v.kd,.int .i64 v.nn,.string v.ss,.slice A3 v.ls.len k3,.slice A4 v.ms.len k4] Z W∧(∀ j x,j < i→XS[j]? = some x→fitsB S.defs x.tn x.tl x.tm x.v=true)∧W.heap[g3]? = some (.cells #[.bool false] 4 (0,0))∧Below w.heap.size w W∧¬ Z.1 g3)
   (fun c i W=>c=.ret∧W.cell? ⟨g3,0,none⟩=some (.bool false)∧Below w.heap.size w W∧∃ x,XS[i]? = some x∧fitsB S.defs x.tn x.tl x.tm x.v=false)
   ?hTl ?hIT ?hIr ?hIxr ?hRc ?h0 ?hseq ?hround ?hdone ?hstop)
 case hTl =>
   intro Z Z' a b ht c o hc ho
   refine (ht.mo.block c (Array.getElem?_eq_some_iff.1 ho).1 ?_).trans ho
   rintro (e|e)<;>omega
 case hIT =>
   rintro i Z Z' a b ⟨h1,h2,h3,h4,h5⟩ ht
   refine ⟨h1.t ht,h2,(ht.mo.block g3 (Array.getElem?_eq_some_iff.1 h3).1 (by omega)).trans h3,⟨ht.mo.os.trans h4.os,ht.mo.tape.trans h4.tape,ht.mo.output.trans h4.output,Nat.le_trans h4.size ht.mo.size,fun c hc=>(ht.mo.block c (Nat.lt_of_lt_of_le hc h4.size) (by omega)).trans (h4.block c hc)⟩,by rw [ht.z];exact h5⟩
 case hIr =>
   rintro i Z W o ⟨h1,h2,h3,h4,h5⟩ _
   exact ⟨h1.put (by omega) o,h2,(World.putObj_heap_other (by omega)).trans h3,low_put h4 (by omega) o,h5⟩
 case hIxr =>
   rintro c i W o ⟨h1,h2,h3,h4⟩ _
   exact ⟨h1,(World.cell?_of_block (a:=⟨g3,0,none⟩) (World.putObj_heap_other (by show g3 ≠ _;omega))).trans h2,low_put h3 (by omega) o,h4⟩
 case hRc =>
   rintro i Z Z1 Z' W W1 W3 o o' ⟨h1,_⟩ ⟨rfl,hb⟩ _ hr
   exact h1.comp (by omega) hb hr
 case h0 =>
   intro W1 hb hs1
   exact ⟨⟨IS0.out _ _ W1 ⟨rfl,.inr rfl⟩ hb hs1,fun b h=>.inl h,rfl⟩,fun j x hj=>absurd hj (by omega),(hb.block g3 (by omega)).trans hr3,LW.out.trans (hb.mono LW.out.size),by show ¬ g3=_;omega⟩
 case hseq =>
   intro W1 J Jx hb hs1 hJ hY hJ0
   have hTV1:=TS.low (hb.mono (by omega)) TVV.out
   exact iter_in 2 (by decide) S KS hKS HZ.out M B (ga+1+1) (ga+1) (.slice A S.defs.length k) (.string S.query) (.string S.mutation) ⟨n,l,m,false,v⟩ A3 A4 k3 k4 XS HX.out HSL.out hN (w5.heap.size+2) (w5.heap.size+1) J Jx hJ hY _ W1 hs1.symm hJ0 (IS0.out _ _ W1 ⟨rfl,.inl rfl⟩ hb hs1) (pl_ts' hnm hTV1)
 case hround =>
   rintro i x Z W hi ⟨h1,h2,h3,h4,h5⟩ ⟨y,hy,hT⟩ hlt
   obtain ⟨E3,j3,E4,j4,rfl,htn,hTv⟩:=pl_cells hT
   have f1:M < w5.heap.size:=by omega
   have f2:g3 < w5.heap.size∧g3 < M:=by omega
   have f3:w.heap.size≤w5.heap.size∧B≤w5.heap.size∧w.heap.size≤g3∧w.heap.size≤M:=by omega
   clear hsz5 hMr hg3lt
   have e0:∀ z,(#[19].zip (encP z))=#[(19,.agg z.toArray)]:=fun z=>by simp [encP]
   simp only [e0]
   gi_wp2
   have hb9:=dbelow_new W (.cells #[.string y.tn,.int .i64 y.tl,.int .i64 y.tm,.bool y.has,.int .i64 y.v.kd,.int .i64 y.v.nn,.string y.v.ss,.slice E3 y.v.ls.len j3,.slice E4 y.v.ms.len j4] 163)
   have i9:=heap_alloc_new W (.cells #[.string y.tn,.int .i64 y.tl,.int .i64 y.tm,.bool y.has,.int .i64 y.v.kd,.int .i64 y.v.nn,.string y.v.ss,.slice E3 y.v.ls.len j3,.slice E4 y.v.ms.len j4] 163)
   generalize W.alloc (.cells #[.string y.tn,.int .i64 y.tl,.int .i64 y.tm,.bool y.has,.int .i64 y.v.kd,.int .i64 y.v.nn,.string y.v.ss,.slice E3 y.v.ls.len j3,.slice E4 y.v.ms.len j4] 163)=V at hb9 i9 ⊢
   have hbW:w5.heap.size+2≤W.heap.size:=h1.ie.hbase
   have hj:=h1.below hb9
   have h3v:=(hb9.block g3 (Array.getElem?_eq_some_iff.1 h3).1).trans h3
   have h4v:=h4.trans (hb9.mono h4.size)
   refine ⟨Z,TZ.of_below h1.ie.ok.lt h1.ie.ok.ok.lt hb9,⟨rfl,hb9⟩,⟨hj,h2,h3v,h4v,h5⟩,fun o=>?_⟩
   have hp:=hj.put (by omega) o
   have i9p:=(World.putObj_heap_other (w:=V) (r:=w5.heap.size+1) (o:=o) (show W.heap.size ≠ w5.heap.size+1 by omega)).trans i9
   have h3p:=(World.putObj_heap_other (w:=V) (r:=w5.heap.size+1) (o:=o) (show g3 ≠ w5.heap.size+1 by omega)).trans h3v
   have h4p:=low_put h4v (d:=w5.heap.size+1) (by omega) o
   have hTp:TS (V.putObj (w5.heap.size+1) o) (fun b=>b < B) (encV y.v) [.int .i64 y.v.kd,.int .i64 y.v.nn,.string y.v.ss,.slice E3 y.v.ls.len j3,.slice E4 y.v.ms.len j4]:=TS.keep (fun b hb=>⟨hb,(World.putObj_heap_other (by omega)).trans (hb9.block b (by omega))⟩) _ _ hTv
   generalize V.putObj (w5.heap.size+1) o=V1 at hp i9p h3p h4p hTp ⊢
   generalize W.heap.size=gb at i9p ⊢
   have hsy:=HSL.out y (List.mem_of_getElem? hy)
   have FC:=Hd (fits_any S y.tn y.tl y.tm y.has y.v (.slice A S.defs.length k) (.string S.query) (.string S.mutation) E3 E4 j3 j4 V1 B M (XU Z.2 V1) KS hBM (fun b h=>h.1) ⟨hp.ie.ok.ok.lt,hp.ie.ok.no⟩ (fun b hb h=>h.2 (hp.ie.uB b hb)) hsy.1 hKS (by unfold maxLen;exact htn) HZ.out hsy.2.1 hsy.2.2 hp.ie.sch hTp hp.ie.ok.xu)
   have HP:=Hd hp
   have H2:=Hd h2
   have HY:=Hd hy
   have H4:=Hd h4p
   have H3:=Hd h3p
   obtain ⟨x0,x1,x2,x3⟩:=four_cells hp.ie.sbox
   obtain ⟨⟨y0,y1,y2,y3,y4,y5,y6,y7,y8⟩,_⟩:=nine_cells i9p
   have hd1:w5.heap.size+1 < V1.heap.size:=hp.ie.zlt _ hp.zd
   have hg31:g3 < V1.heap.size:=(Array.getElem?_eq_some_iff.1 h3p).1
   clear hp h2 hy h4p h3p hTp i9p hsy hj h3v h4v i9 hb9 h1 h3 h4 hTv hT
   obtain ⟨bf,hbf⟩:∃ b,fitsB S.defs y.tn y.tl y.tm y.v=b:=⟨_,rfl⟩
   rw [hbf] at FC
   cases bf
   · gi_wp2
     refine ⟨trivial,(CallsIn.inRound _ (callsIn_wide.2 FC.out)).mono ?_⟩
     rintro e V2 ⟨rfl,hm,ho⟩
     obtain ⟨q0,q1⟩:=one_box ((hm.block g3 hg31 (by omega)).trans H3.out)
     have HM:=Hd hm
     clear hm ho
     gi_wp2
     have hm:=HM.out
     refine ⟨⟨?_,?_⟩,rfl,World.cell?_setCell_same' _ _ _ (by rw [q0];rfl),(MoX.low H4.out hm (by omega) (Nat.le_refl _)).setCell (p:=⟨g3,0,none⟩) (by show _≤g3;omega) _,y,HY.out,hbf⟩
     · exact (Below.heap_setCell _ _ _ _ (by show _ ≠ g3;omega)).trans (hm.block _ hd1 (by omega))
     · exact (Below.heap_setCell _ _ _ _ (by show _ ≠ g3;omega)).trans (hm.block _ (by omega) (by omega))
   · gi_wp2
     refine ⟨trivial,(CallsIn.inRound _ (callsIn_wide.2 FC.out)).mono ?_⟩
     rintro e V2 ⟨rfl,hm,ho⟩
     have HM:=Hd hm
     have HO:=Hd ho
     clear hm ho
     gi_wp2
     have hm:=HM.out
     have ho:=HO.out
     have hr:=RZ.of_cache HP.out hm ho
     refine ⟨⟨hm.block _ hd1 (by omega),hm.block _ (by omega) (by omega)⟩,_,⟨HP.out.r hr HP.out.zd,fun j x hj hx=>?_,(hm.block g3 hg31 (by omega)).trans H3.out,MoX.low H4.out hm (by omega) (Nat.le_refl _),h5⟩,hr⟩
     rcases Nat.lt_or_ge j i with hl|hl
     · exact H2.out j x hl hx
     · obtain rfl:j=i:=by omega
       have e:=HY.out
       rw [hx] at e
       obtain rfl:=Option.some.inj e
       exact hbf
 case hdone =>
   rintro Z W ⟨h1,h2,h3,h4,h5⟩ hK
   obtain ⟨q0,q1⟩:=one_box h3
   go_wp2_with fail
   have hc:=World.cell?_setCell_same' W ⟨g3,0,none⟩ (.bool true) (by rw [q0];rfl)
   refine postM_mark (D:=w5.heap.size) rfl ((Below.heap_setCell _ _ _ _ (by show w5.heap.size ≠ g3;omega)).trans hK) (fun w' hb=>res_bool rfl rfl ((World.cell?_of_block (a:=⟨g3,0,none⟩) (hb g3 (by omega))).trans hc)) (fun w' e1 e2 e3 e4 hb=>⟨?_,?_⟩)
   · unfold rightL
     rw [hbg,← HX.out,List.all_eq_true.2 (fun x hx=>by
       obtain ⟨j,hj⟩:=List.mem_iff_getElem?.1 hx
       exact h2 j x (List.getElem?_eq_some_iff.1 hj).1 hj)]
     rfl
   · have h6:=h4.setCell (p:=⟨g3,0,none⟩) (by show _≤g3;omega) (.bool true)
     exact ⟨e1.trans h6.os,e2.trans h6.tape,e3.trans h6.output,by rw [e4];exact h6.size,fun b hb'=>(hb b (by omega)).trans (h6.block b hb')⟩
 case hstop =>
   rintro c i W hi ⟨rfl,h3,h4,x,hx,hf⟩ hK
   refine wpIn_wide.2 ?_
   have q0:=h3
   go_wp2_with fail
   refine postM_mark (D:=w5.heap.size) rfl hK (fun w' hb=>res_bool rfl rfl ((World.cell?_of_block (a:=⟨g3,0,none⟩) (hb g3 (by omega))).trans q0)) (fun w' e1 e2 e3 e4 hb=>⟨?_,?_⟩)
   · have hr:rightL S.defs ⟨n,l,m,false,v⟩=false:=by
       unfold rightL
       rw [← HX.out,Bool.and_eq_false_iff]
       refine .inr (Bool.eq_false_iff.2 fun h=>?_)
       have:=List.all_eq_true.1 h x (List.mem_of_getElem? hx)
       rw [hf] at this
       cases this
     rw [hr]
   · exact ⟨e1.trans h4.os,e2.trans h4.tape,e3.trans h4.output,by rw [e4];exact h4.size,fun b hb'=>(hb b (by omega)).trans (h4.block b hb')⟩
attribute [local go_sem] Oper.semAt_some
section
variable {S:SchT} {KS:List ByteArray} {M B pb sb base d:Nat} {c0 c1 c2:Value} {pcs:Array Value} {G:Gh} {W W6:World}
end
theorem par_at {w:World} {B:Nat} {l:List VarT} {A:Option Addr} {q:Nat} {x:VarT} (h:RowT w (fun b=>b < B) (rowOf encVar l) A) (hx:l[q]? = some x) :
  ∃ b p d0 d1 d2 d3 d4,A=some ⟨b,p,none⟩∧b < B∧w.cell? ⟨b,p+q*10,none⟩=some (.string x.name)∧Five w b (p+q*10+5) d0 d1 d2 d3 d4∧VAt w B x.v d0 d1 d2 d3 d4:=by
 obtain ⟨b,p,cs,e,hb,hc,h1⟩:=rowOf_at 10 (fun x=>by unfold encVar;simp only [TrS.len,encV_len]) h hx
 simp only [encVar,TS,TP] at h1
 obtain ⟨c0,_,rfl,⟨rfl,_⟩,c1,_,rfl,⟨rfl,_⟩,c2,_,rfl,⟨rfl,_⟩,c3,_,rfl,⟨rfl,_⟩,c4,ys,rfl,⟨rfl,_⟩,h2⟩:=h1
 obtain ⟨d0,d1,d2,d3,d4,rfl,hv⟩:=ts_vp _ _ h2
 exact ⟨b,p,d0,d1,d2,d3,d4,e,hb,hc 0 _ rfl,⟨hc 5 _ rfl,hc 6 _ rfl,hc 7 _ rfl,hc 8 _ rfl,hc 9 _ rfl⟩,VP.at (fun _ h=>h) _ _ _ _ _ _ hv⟩
def K6 (w:World) (b O:Nat) (nm d0 d1 d2 d3 d4:Value) (W:World):Prop:=W.cell? ⟨b,O,none⟩=some nm∧Five W b (O+5) d0 d1 d2 d3 d4∧Below w.heap.size w W
theorem K6.next {w W W':World} {b O:Nat} {nm d0 d1 d2 d3 d4:Value} (h:K6 w b O nm d0 d1 d2 d3 d4 W) (hl:b < w.heap.size) (hb:Below W.heap.size W W'):K6 w b O nm d0 d1 d2 d3 d4 W':=by
 obtain ⟨hn,hF,hK⟩:=h
 have g:=Nat.lt_of_lt_of_le hl hK.size
 exact ⟨(hb.cell (p:=⟨b,_,none⟩) g).trans hn,hF.below hb g,hK.trans (hb.mono hK.size)⟩
theorem K6.written {w W:World} {b O:Nat} {nm d0 d1 d2 d3 d4:Value} (h:K6 w b O nm d0 d1 d2 d3 d4 W):W.cell? ⟨b,O,none⟩=some nm∧W.cell? ⟨b,O+5,none⟩=some d0∧W.cell? ⟨b,O+5+1,none⟩=some d1∧W.cell? ⟨b,O+5+2,none⟩=some d2∧W.cell? ⟨b,O+5+3,none⟩=some d3∧W.cell? ⟨b,O+5+4,none⟩=some d4∧K6 w b O nm d0 d1 d2 d3 d4 W:=
 ⟨h.1,h.2.1.1,h.2.1.2.1,h.2.1.2.2.1,h.2.1.2.2.2.1,h.2.1.2.2.2.2,h⟩
theorem K6.below {w W:World} {b O:Nat} {nm d0 d1 d2 d3 d4:Value} (h:K6 w b O nm d0 d1 d2 d3 d4 W):Below w.heap.size w W:=h.2.2
def K2 (w:World) (b O:Nat) (nm v:Value) (W:World):Prop:=W.cell? ⟨b,O,none⟩=some nm∧W.cell? ⟨b,O+1,none⟩=some v∧Below w.heap.size w W
theorem K2.next {w W W':World} {b O:Nat} {nm v:Value} (h:K2 w b O nm v W) (hl:b < w.heap.size) (hb:Below W.heap.size W W'):K2 w b O nm v W':=by
 obtain ⟨hn,hF,hK⟩:=h
 have g:=Nat.lt_of_lt_of_le hl hK.size
 exact ⟨(hb.cell (p:=⟨b,_,none⟩) g).trans hn,(hb.cell (p:=⟨b,_,none⟩) g).trans hF,hK.trans (hb.mono hK.size)⟩
theorem K2.written {w W:World} {b O:Nat} {nm v:Value} (h:K2 w b O nm v W):W.cell? ⟨b,O,none⟩=some nm∧W.cell? ⟨b,O+1,none⟩=some v∧K2 w b O nm v W:=⟨h.1,h.2.1,h⟩
theorem K2.below {w W:World} {b O:Nat} {nm v:Value} (h:K2 w b O nm v W):Below w.heap.size w W:=h.2.2
theorem field_at {w:World} {P:Nat→Prop} {l:List FieldT} {A:Option Addr} {q:Nat} {d:FieldT} (h:RowT w P (rowOf encField l) A) (hx:l[q]? = some d) :
  ∃ b p c0 c1 c2 c3 c4 c5,A=some ⟨b,p,none⟩∧P b∧(w.cell? ⟨b,p+q*6,none⟩=some c0∧w.cell? ⟨b,p+q*6+1,none⟩=some c1∧w.cell? ⟨b,p+q*6+2,none⟩=some c2∧w.cell? ⟨b,p+q*6+3,none⟩=some c3∧w.cell? ⟨b,p+q*6+4,none⟩=some c4∧w.cell? ⟨b,p+q*6+5,none⟩=some c5)∧TS w P (encField d) [c0,c1,c2,c3,c4,c5]:=by
 obtain ⟨b,p,cs,e,hb,hc,h1⟩:=rowOf_at 6 (fun _=>rfl) h hx
 obtain ⟨Ap,kp,Ad,kd,rfl,_⟩:=fld_cells h1
 exact ⟨b,p,_,_,_,_,_,_,e,hb,⟨hc 0 _ rfl,hc 1 _ rfl,hc 2 _ rfl,hc 3 _ rfl,hc 4 _ rfl,hc 5 _ rfl⟩,h1⟩
theorem field_any (S:SchT) (t n:ByteArray) (c0 c1 c2:Value) (w:World) (B:Nat) (hB:B≤w.heap.size) (ht:t.size≤9223372036854775807) (hz:SlimS S) (hS:TS w (fun b=>b < B) (encSch S) [c0,c1,c2]) :
  Calls Tryz.prog 20 #[.agg #[c0,c1,c2],.string t,.string n] w (FoundF (fieldD S.defs t n) w):=by
 have F:=Hd (fun (wx:World) (hb:Below w.heap.size w wx)=>find_any S t c0 c1 c2 wx B (Nat.le_trans hB hb.size) ht (TS.low (hb.mono hB) hS))
 have CC:=Hd (fun (wx:World) (hb:Below w.heap.size w wx)=>composite_any S t c0 c1 c2 wx B (Nat.le_trans hB hb.size) ht (TS.low (hb.mono hB) hS))
 have IC:=Hd (fun (wx:World) (g:Nat) (hb:Below w.heap.size w wx) (hk:IntsAt wx wx.heap.size (some ⟨g,0,none⟩) [1,2])=>is_any S t [1,2] (some ⟨g,0,none⟩) 2 2 c0 c1 c2 wx B (Nat.le_trans hB hb.size) ht (by decide) rfl hk (TS.low (hb.mono hB) hS))
 have M:=Hd (fun (wx:World)=>must_any strB 0 0 wx (by decide))
 rw [must_str] at M
 have FS:=Hd (find_slim hz.2 t)
 have HB:=Hd hB
 obtain ⟨A,k,e,_⟩:=sch_cells hS
 injection e with e0 e
 injection e with e1 e
 injection e with e2 e
 subst e0 e1 e2
 clear hB e ht hS hz
 have X0:=Hd (FR.start w (.slice A S.defs.length k) (.string S.query) (.string S.mutation) (.cells #[.string ⟨#[]⟩,.slice none 0 0,.string ⟨#[]⟩,.int .i64 0,.int .i64 0,.slice none 0 0] 46))
 have HQ:Hid (fieldD S.defs t n=if (n.toList == [95,95,116,121,112,101,110,97,109,101])=true∧compD S.defs t=true then (⟨tnameB,[],strB,0,1,[]⟩,true)
    else if isD S.defs t [1,2]=true then fieldL (findD S.defs t).1.fields n else (zeroF,false)):=Hd rfl
 generalize fieldD S.defs t n=Q at HQ ⊢
 cases e1:(n.toList == [95,95,116,121,112,101,110,97,109,101])
 case' false =>
  go_enter Tryz.func20,Tryz.ntmps20
  go_upto_region 3 with fail
  have HQ:Hid (Q=if isD S.defs t [1,2]=true then fieldL (findD S.defs t).1.fields n else (zeroF,false)):=Hd (HQ.out.trans (by rw [e1,if_neg (by simp)]))
  have X1:=Hd X0.out
  generalize ((w.alloc (.cells #[.slice A S.defs.length k,.string S.query,.string S.mutation] 24)).alloc (.cells #[.string ⟨#[]⟩,.slice none 0 0,.string ⟨#[]⟩,.int .i64 0,.int .i64 0,.slice none 0 0] 46))=wa at X1 ⊢
  clear X0 e1
 case' true =>
  go_enter Tryz.func20,Tryz.ntmps20
  obtain ⟨z0,z1,z2⟩:=three_cells X0.out.box
  go_wp2_with fail
  refine (CC.out _ X0.out.low).mono ?_
  clear z0 z1 z2
  rintro e wa ⟨rfl,hb1⟩
  have X1:=Hd (X0.out.next hb1)
  clear hb1
  cases e2:compD S.defs t
  case' true =>
    have hQ:Q=(⟨tnameB,[],strB,0,1,[]⟩,true):=HQ.out.trans (by rw [e1,e2,if_pos ⟨rfl,rfl⟩])
    clear e1
    go_wp2_with fail
    refine (M.out _).mono ?_
    rintro e wb ⟨rfl,hb2⟩
    have X2:=Hd (X1.out.next hb2)
    obtain ⟨⟨z0,z1,z2,z3,z4,z5⟩,v0,v1,v2,v3,v4,v5⟩:=six_cells X2.out.res
    clear hb2
    go_wp2_with fail
    refine ret_f2 rfl rfl rfl (six_set X2.out.res) ?_
    subst hQ
    exact ⟨_,_,_,_,_,_,rfl,fld_none tnameB strB 1 (by decide) (by decide),six_low (b:=w.heap.size+1) X2.out.low (Nat.le_succ _)⟩
  case' false =>
    have HQ:Hid (Q=if isD S.defs t [1,2]=true then fieldL (findD S.defs t).1.fields n else (zeroF,false)):=Hd (HQ.out.trans (by rw [e2,if_neg (by simp)]))
    go_upto_region 3 with fail
    clear X0 e1 e2
 all_goals
  obtain ⟨z0,z1,z2⟩:=three_cells X1.out.box
  have I1:=Hd (fun (t:TypeId)=>ints_new wa (o:=.cells #[.int .i64 1,.int .i64 2] t) (l:=[1,2]) (B:=wa.heap.size+1) (by simp) rfl)
  go_wp2_with fail
  refine (IC.out _ wa.heap.size ((X1.out.next (dbelow_new wa _)).low) (by have:=I1.out 3;simpa using this)).mono ?_
  rintro e wb ⟨rfl,hb2⟩
  have X2:=Hd ((X1.out.next (dbelow_new wa _)).next hb2)
  clear z0 z1 z2 hb2 I1 X1
  cases e3:isD S.defs t [1,2] with
  | false =>
    have hQ:Q=(zeroF,false):=HQ.out.trans (by rw [e3,if_neg (by decide)])
    obtain ⟨⟨z0,z1,z2,z3,z4,z5⟩,v0,v1,v2,v3,v4,v5⟩:=six_cells X2.out.res
    go_wp2_with fail
    refine ret_f2 rfl rfl rfl (six_set X2.out.res) ?_
    subst hQ
    exact ⟨_,_,_,_,_,_,rfl,fld_none ⟨#[]⟩ ⟨#[]⟩ 0 (by decide) (by decide),six_low (b:=w.heap.size+1) X2.out.low (Nat.le_succ _)⟩
  | true =>
    have HQ2:Hid (Q=fieldL (findD S.defs t).1.fields n):=Hd (HQ.out.trans (by rw [e3,if_pos rfl]))
    clear HQ e3
    obtain ⟨z0,z1,z2⟩:=three_cells X2.out.box
    generalize findD S.defs t=x at F FS HQ2
    go_wp2_with fail
    refine (F.out _ X2.out.low).mono ?_
    rintro e wc ⟨d0,d1,d2,d3,d4,d5,rfl,hT,hb3⟩
    have X3:=Hd (X2.out.next hb3)
    obtain ⟨Af,kf,Ax,kx,Ap,kp,Am,km,e,_,_,⟨hl,hR⟩,_⟩:=defn_cells hT
    simp only [List.cons.injEq,and_true] at e
    obtain ⟨rfl,rfl,rfl,rfl,rfl,rfl⟩:=e
    have HR:=Hd hR
    have FL:=Hd FS.out.2.2.2.2
    obtain ⟨l,el⟩:∃ l,x.1.fields=l:=⟨_,rfl⟩
    rw [el] at hl HR HQ2 FL ⊢
    clear z0 z1 z2 hT hb3 hR F FS IC CC M X2 el
    go_wp2_with fail
    go_loopg [37] l.length (fun gk i wx=>∃ q:Nat,q+gk=l.length∧i=.int .i64 q∧Aside (fieldL (l.drop q) n=fieldL l n)∧Aside (FR w (.slice A S.defs.length k) (.string S.query) (.string S.mutation) (.cells #[.string ⟨#[]⟩,.slice none 0 0,.string ⟨#[]⟩,.int .i64 0,.int .i64 0,.slice none 0 0] 46) wx∧Below wc.heap.size wc wx))
    case atStart=>exact ⟨0,by omega,rfl,Blk.Aside.intro (by rw [List.drop_zero]),Blk.Aside.intro ⟨X3.out.next (dbelow_new wc _),dbelow_new wc _⟩⟩
    case round =>
     obtain ⟨q,hq,rfl,HA,HX⟩:=hrel
     obtain ⟨hX,hb⟩:=HX.out
     have X4:=Hd hX
     have HB4:=Hd hb
     clear HX hX hb
     cases gk with
     | zero =>
       obtain rfl:q=l.length:=by omega
       have hQ:Q=(zeroF,false):=HQ2.out.trans (by rw [← HA.out,List.drop_length];rfl)
       obtain ⟨⟨z0,z1,z2,z3,z4,z5⟩,v0,v1,v2,v3,v4,v5⟩:=six_cells X4.out.res
       clear HA
       go_wp2_with fail
       refine ret_f2 rfl rfl rfl (six_set X4.out.res) ?_
       subst hQ
       exact ⟨_,_,_,_,_,_,rfl,fld_none ⟨#[]⟩ ⟨#[]⟩ 0 (by decide) (by decide),six_low (b:=w.heap.size+1) X4.out.low (Nat.le_succ _)⟩
     | succ g =>
       have hqn:q < l.length:=by omega
       have hqn':(q:Int) < (l.length:Int):=by omega
       obtain ⟨d,hd⟩:∃ x,l[q]? = some x:=⟨_,List.getElem?_eq_getElem hqn⟩
       have hBx:B≤wc.heap.size:=Nat.le_trans HB.out X3.out.low.size
       obtain ⟨b,p,e0,e1,e2,e3,e4,e5,rfl,hlt,⟨g0,g1,g2,g3,g4,g5⟩,hT⟩:=field_at (RowT.below (HB4.out.mono hBx) HR.out) hd
       have HT:=Hd hT
       have HSL:=Hd (FL.out d (List.mem_of_getElem? hd))
       obtain ⟨Bp,cp,Bd,cd,e,_⟩:=fld_cells hT
       simp only [List.cons.injEq,and_true] at e
       obtain ⟨rfl,rfl,rfl,rfl,rfl,rfl⟩:=e
       have hN:=fieldL_at (n:=n) hd
       have hlt':b < wr.heap.size:=Nat.lt_of_lt_of_le hlt (Nat.le_trans hBx HB4.out.size)
       clear hT hd hlt
       cases e:(d.name.toList == n.toList) with
       | false =>
         have hG:Hid (fieldL (l.drop (q+1)) n=fieldL l n):=Hd (by rw [← HA.out,hN,if_neg (by rw [e];decide)])
         clear HA hN
         go_wp2_with fail
         go_roundg g
         case measure=>omega
         case rel=>exact ⟨q+1,by omega,by go_num,Blk.Aside.intro hG.out,Blk.Aside.intro ⟨X4.out.next (dbelow_new wr _),HB4.out.trans ((dbelow_new wr _).mono HB4.out.size)⟩⟩
       | true =>
         have hQ:Q=(d,true):=HQ2.out.trans (by rw [← HA.out,hN,if_pos e])
         have HQ5:=Hd hQ
         have hC:=Hd (fun o=>ownfld_any d (.string d.name) (.slice Bp d.params.length cp) (.string d.tn) (.int .i64 d.tl) (.int .i64 d.tm) (.slice Bd d.dirs.length cd) (wr.alloc o) (fun b=>b < B) (fun b hb=>Nat.lt_of_lt_of_le hb (Nat.le_trans hBx (Nat.le_trans HB4.out.size (dbelow_new wr o).size))) HSL.out (TS.low ((dbelow_new wr o).mono (Nat.le_trans hBx HB4.out.size)) HT.out))
         clear HA hN hQ
         go_wp2_with fail
         refine (hC.out _).mono ?_
         rintro e wd ⟨A1,k1,A2,k2,rfl,hT2,hb2⟩
         have X5:=Hd ((X4.out.next (dbelow_new wr _)).next hb2)
         have T5:=Hd hT2
         have hs4:=X4.out.size
         obtain ⟨⟨z0,z1,z2,z3,z4,z5⟩,v0,v1,v2,v3,v4,v5⟩:=six_cells X5.out.res
         clear hT2 hb2 hC g0 g1 g2 g3 g4 g5
         go_wp2_with fail
         refine ret_f2 rfl rfl rfl (six_set X5.out.res) ?_
         have hQ:=HQ5.out
         subst hQ
         exact ⟨_,_,_,_,_,_,rfl,TS.keep (fun b hb=>⟨by simpa [World.setCell] using hb.1,six_heap (hb.ne (g:=w.heap.size+1) (fun b h=>by have:=HB.out;omega) (by simp;omega))⟩) _ _ T5.out,six_low (b:=w.heap.size+1) X5.out.low (Nat.le_succ _)⟩
end Go.Proofs.YtaekdfcpbepepaaGreatDoor
