/- literal.Spots. (gen_spots.py wrote it.) -/
import Derived.Test.YtaekdfcpbepepaaGreatDoorQb18
import Derived.Maps.OwnIn
import Derived.SizedLaws
set_option maxRecDepth 100000
namespace Go.Proofs.YtaekdfcpbepepaaGreatDoor
open Go.RowKit
attribute [local go_sem] Oper.semAt_some
section
variable {S:SchT} {KS:List ByteArray} {M B pb sb base d:Nat} {c0 c1 c2:Value} {pcs:Array Value} {G:Gh} {W W6:World}
end
theorem par_at {w:World} {B:Nat} {l:List VarT} {A:Option Addr} {q:Nat} {x:VarT} (h:RowT w (fun b=>b < B) (rowOf encVar l) A) (hx:l[q]? = some x) :
  ∃ b p d0 d1 d2 d3 d4,A=some ⟨b,p,none⟩∧b < B∧w.cell? ⟨b,p+q*10,none⟩=some (.string x.name)∧Five w b (p+q*10+5) d0 d1 d2 d3 d4∧VAt w B x.v d0 d1 d2 d3 d4:=by
 obtain ⟨b,p,cs,e,hb,hc,h1⟩:=rowOf_at 10 (fun x=>by unfold encVar;simp only [TrS.len,encV_len]) h hx
 simp only [encVar,TS,TP] at h1
 obtain ⟨c0,_,rfl,⟨rfl,_⟩,c1,_,rfl,⟨rfl,_⟩,c2,_,rfl,⟨rfl,_⟩,c3,_,rfl,⟨rfl,_⟩,c4,ys,rfl,⟨rfl,_⟩,h2⟩:=h1
 obtain ⟨d0,d1,d2,d3,d4,rfl,hv⟩:=ts_vp _ _ h2
 exact ⟨b,p,d0,d1,d2,d3,d4,e,hb,hc 0 _ rfl,⟨hc 5 _ rfl,hc 6 _ rfl,hc 7 _ rfl,hc 8 _ rfl,hc 9 _ rfl⟩,VP.at (fun _ h=>h) _ _ _ _ _ _ hv⟩
def K6 (w:World) (b O:Nat) (nm d0 d1 d2 d3 d4:Value) (W:World):Prop:=W.cell? ⟨b,O,none⟩=some nm∧Five W b (O+5) d0 d1 d2 d3 d4∧Below w.heap.size w W
theorem K6.next {w W W':World} {b O:Nat} {nm d0 d1 d2 d3 d4:Value} (h:K6 w b O nm d0 d1 d2 d3 d4 W) (hl:b < w.heap.size) (hb:Below W.heap.size W W'):K6 w b O nm d0 d1 d2 d3 d4 W':=by
 obtain ⟨hn,hF,hK⟩:=h
 have g:=Nat.lt_of_lt_of_le hl hK.size
 exact ⟨(hb.cell (p:=⟨b,_,none⟩) g).trans hn,hF.below hb g,hK.trans (hb.mono hK.size)⟩
theorem K6.written {w W:World} {b O:Nat} {nm d0 d1 d2 d3 d4:Value} (h:K6 w b O nm d0 d1 d2 d3 d4 W):W.cell? ⟨b,O,none⟩=some nm∧W.cell? ⟨b,O+5,none⟩=some d0∧W.cell? ⟨b,O+5+1,none⟩=some d1∧W.cell? ⟨b,O+5+2,none⟩=some d2∧W.cell? ⟨b,O+5+3,none⟩=some d3∧W.cell? ⟨b,O+5+4,none⟩=some d4∧K6 w b O nm d0 d1 d2 d3 d4 W:=
 ⟨h.1,h.2.1.1,h.2.1.2.1,h.2.1.2.2.1,h.2.1.2.2.2.1,h.2.1.2.2.2.2,h⟩
theorem K6.below {w W:World} {b O:Nat} {nm d0 d1 d2 d3 d4:Value} (h:K6 w b O nm d0 d1 d2 d3 d4 W):Below w.heap.size w W:=h.2.2
def K2 (w:World) (b O:Nat) (nm v:Value) (W:World):Prop:=W.cell? ⟨b,O,none⟩=some nm∧W.cell? ⟨b,O+1,none⟩=some v∧Below w.heap.size w W
theorem K2.next {w W W':World} {b O:Nat} {nm v:Value} (h:K2 w b O nm v W) (hl:b < w.heap.size) (hb:Below W.heap.size W W'):K2 w b O nm v W':=by
 obtain ⟨hn,hF,hK⟩:=h
 have g:=Nat.lt_of_lt_of_le hl hK.size
 exact ⟨(hb.cell (p:=⟨b,_,none⟩) g).trans hn,(hb.cell (p:=⟨b,_,none⟩) g).trans hF,hK.trans (hb.mono hK.size)⟩
theorem K2.written {w W:World} {b O:Nat} {nm v:Value} (h:K2 w b O nm v W):W.cell? ⟨b,O,none⟩=some nm∧W.cell? ⟨b,O+1,none⟩=some v∧K2 w b O nm v W:=⟨h.1,h.2.1,h⟩
theorem K2.below {w W:World} {b O:Nat} {nm v:Value} (h:K2 w b O nm v W):Below w.heap.size w W:=h.2.2
theorem field_at {w:World} {P:Nat→Prop} {l:List FieldT} {A:Option Addr} {q:Nat} {d:FieldT} (h:RowT w P (rowOf encField l) A) (hx:l[q]? = some d) :
  ∃ b p c0 c1 c2 c3 c4 c5,A=some ⟨b,p,none⟩∧P b∧(w.cell? ⟨b,p+q*6,none⟩=some c0∧w.cell? ⟨b,p+q*6+1,none⟩=some c1∧w.cell? ⟨b,p+q*6+2,none⟩=some c2∧w.cell? ⟨b,p+q*6+3,none⟩=some c3∧w.cell? ⟨b,p+q*6+4,none⟩=some c4∧w.cell? ⟨b,p+q*6+5,none⟩=some c5)∧TS w P (encField d) [c0,c1,c2,c3,c4,c5]:=by
 obtain ⟨b,p,cs,e,hb,hc,h1⟩:=rowOf_at 6 (fun _=>rfl) h hx
 obtain ⟨Ap,kp,Ad,kd,rfl,_⟩:=fld_cells h1
 exact ⟨b,p,_,_,_,_,_,_,e,hb,⟨hc 0 _ rfl,hc 1 _ rfl,hc 2 _ rfl,hc 3 _ rfl,hc 4 _ rfl,hc 5 _ rfl⟩,h1⟩
def QD (wz:World) (g:Nat) (c1 c2 c4 c5:Value) (W:World):Prop:=W.cell? ⟨g,1,none⟩=some c1∧W.cell? ⟨g,2,none⟩=some c2∧W.cell? ⟨g,4,none⟩=some c4∧W.cell? ⟨g,5,none⟩=some c5∧Below wz.heap.size wz W
theorem QD.next {wz W W':World} {g:Nat} {c1 c2 c4 c5:Value} (h:QD wz g c1 c2 c4 c5 W) (hl:g < wz.heap.size) (hb:Below W.heap.size W W'):QD wz g c1 c2 c4 c5 W':=by
 obtain ⟨h1,h2,h4,h5,hK⟩:=h
 have q:=Nat.lt_of_lt_of_le hl hK.size
 exact ⟨(hb.cell (p:=⟨g,_,none⟩) q).trans h1,(hb.cell (p:=⟨g,_,none⟩) q).trans h2,(hb.cell (p:=⟨g,_,none⟩) q).trans h4,(hb.cell (p:=⟨g,_,none⟩) q).trans h5,hK.trans (hb.mono hK.size)⟩
theorem QD.written {wz W:World} {g:Nat} {c1 c2 c4 c5:Value} (h:QD wz g c1 c2 c4 c5 W):W.cell? ⟨g,1,none⟩=some c1∧W.cell? ⟨g,2,none⟩=some c2∧W.cell? ⟨g,4,none⟩=some c4∧W.cell? ⟨g,5,none⟩=some c5∧QD wz g c1 c2 c4 c5 W:=⟨h.1,h.2.1,h.2.2.1,h.2.2.2.1,h⟩
theorem QD.below {wz W:World} {g:Nat} {c1 c2 c4 c5:Value} (h:QD wz g c1 c2 c4 c5 W):Below wz.heap.size wz W:=h.2.2.2.2
theorem QD.held {wz W:World} {g:Nat} {c1 c2 c4 c5:Value} {p1 p2 p3 p4:Prop} (h:p1∧p2∧p3∧p4∧QD wz g c1 c2 c4 c5 W):Below wz.heap.size wz W:=h.2.2.2.2.below
theorem QD.last {wz W:World} {g:Nat} {c1 c2 c4 c5:Value} {p1 p2 p3 p4:Prop} (h:p1∧p2∧p3∧p4∧QD wz g c1 c2 c4 c5 W):QD wz g c1 c2 c4 c5 W:=h.2.2.2.2
def QE (wz:World) (g:Nat) (c3:Value) (b O:Nat) (nm v1 v5:Value) (W:World):Prop:=W.cell? ⟨g,3,none⟩=some c3∧W.cell? ⟨b,O,none⟩=some nm∧W.cell? ⟨b,O+1,none⟩=some v1∧W.cell? ⟨b,O+5,none⟩=some v5∧Below wz.heap.size wz W
theorem QE.next {wz W W':World} {g b O:Nat} {c3 nm v1 v5:Value} (h:QE wz g c3 b O nm v1 v5 W) (hl:g < wz.heap.size) (hl2:b < wz.heap.size) (hb:Below W.heap.size W W'):QE wz g c3 b O nm v1 v5 W':=by
 obtain ⟨h1,h2,h4,h5,hK⟩:=h
 have q:=Nat.lt_of_lt_of_le hl hK.size
 have q2:=Nat.lt_of_lt_of_le hl2 hK.size
 exact ⟨(hb.cell (p:=⟨g,_,none⟩) q).trans h1,(hb.cell (p:=⟨b,_,none⟩) q2).trans h2,(hb.cell (p:=⟨b,_,none⟩) q2).trans h4,(hb.cell (p:=⟨b,_,none⟩) q2).trans h5,hK.trans (hb.mono hK.size)⟩
theorem QE.written {wz W:World} {g b O:Nat} {c3 nm v1 v5:Value} (h:QE wz g c3 b O nm v1 v5 W):W.cell? ⟨g,3,none⟩=some c3∧W.cell? ⟨b,O,none⟩=some nm∧W.cell? ⟨b,O+1,none⟩=some v1∧W.cell? ⟨b,O+5,none⟩=some v5∧QE wz g c3 b O nm v1 v5 W:=⟨h.1,h.2.1,h.2.2.1,h.2.2.2.1,h⟩
theorem QE.below {wz W:World} {g b O:Nat} {c3 nm v1 v5:Value} (h:QE wz g c3 b O nm v1 v5 W):Below wz.heap.size wz W:=h.2.2.2.2
theorem QE.last {wz W:World} {g b O:Nat} {c3 nm v1 v5:Value} {p1 p2 p3 p4:Prop} (h:p1∧p2∧p3∧p4∧QE wz g c3 b O nm v1 v5 W):QE wz g c3 b O nm v1 v5 W:=h.2.2.2.2
theorem QE.held {wz W:World} {g b O:Nat} {c3 nm v1 v5:Value} {p1 p2 p3 p4:Prop} (h:p1∧p2∧p3∧p4∧QE wz g c3 b O nm v1 v5 W):Below wz.heap.size wz W:=h.2.2.2.2.below
theorem within_sz {D:List DefnT} {p x:PlT} (h:x ∈ withinL D p):szV x.v≤szV p.v:=by
 obtain ⟨tn,tl,tm,hs,k,nn,s,l,m⟩:=p
 have hv:szV (.mk k nn s l m)=1+szL l+szM m:=by rw [szV]
 unfold withinL at h
 dsimp only at h ⊢
 split at h
 · simp at h
 · split at h
   · split at h
     · unfold elemsL at h
       obtain ⟨v,hv',rfl⟩:=List.mem_map.1 h
       have h1:szV v≤szL l:=szL_mem hv'
       show szV v≤_
       omega
     · obtain rfl:=List.mem_singleton.1 h
       exact Nat.le_refl _
   · split at h
     · unfold memsL at h
       obtain ⟨y,hy,hx⟩:=List.mem_flatMap.1 h
       have h1:szV y.2≤szM m:=szM_mem hy
       split at hx
       · obtain rfl:=List.mem_singleton.1 hx
         show szV y.2≤_
         omega
       · simp at hx
     · simp at h
theorem allP_sz (D:List DefnT):∀ (n:Nat) (p:PlT),msr p≤n→∀ x,x ∈ allP D p→szV x.v≤szV p.v
 | n,p,hn,x,hx=>by
   rw [allP_eq] at hx
   rcases List.mem_cons.1 hx with rfl|hx
   · exact Nat.le_refl _
   · obtain ⟨y,hy,hx⟩:=List.mem_flatMap.1 hx
     have h1:=within_msr hy
     have h2:=within_sz hy
     cases n with
     | zero=>omega
     | succ n=>exact Nat.le_trans (allP_sz D n y (by omega) x hx) h2
theorem ls_sz:∀ l:VL,l.len≤szL l
 | .nil=>by rw [VL.len];omega
 | .cons v t=>by
   have:=ls_sz t
   have:=szV_pos v
   rw [VL.len,szL]
   omega
theorem ms_sz:∀ l:VM,l.len≤szM l
 | .nil=>by rw [VM.len];omega
 | .cons n v t=>by
   have:=ms_sz t
   have:=szV_pos v
   rw [VM.len,szM]
   omega
mutual
theorem sz_size:∀ v:VT,szV v≤sizeV v
 | .mk k n s l m=>by
   have:=szL_size l
   have:=szM_size m
   rw [szV,sizeV]
   omega
theorem szL_size:∀ l:VL,szL l≤sizeL l
 | .nil=>by rw [szL];omega
 | .cons v t=>by
   have:=sz_size v
   have:=szL_size t
   rw [szL,sizeL]
   omega
theorem szM_size:∀ l:VM,szM l≤sizeM l
 | .nil=>by rw [szM];omega
 | .cons n v t=>by
   have:=sz_size v
   have:=szM_size t
   rw [szM,sizeM]
   omega
end
theorem slim_all (D:List DefnT) (p:PlT) (h:szV p.v≤1100000):∀ x,x ∈ allP D p→SlimP ((allP D p).map (·.tn)) x:=fun x hx=>by
 have h1:=allP_sz D _ p (Nat.le_refl _) x hx
 obtain ⟨tn,tl,tm,hs,k,nn,s,l,m⟩:=x
 have hv:szV (.mk k nn s l m)=1+szL l+szM m:=by rw [szV]
 have h2:=ls_sz l
 have h3:=ms_sz m
 have h1:szV (.mk k nn s l m)≤szV p.v:=h1
 refine ⟨List.mem_map.2 ⟨_,hx,rfl⟩,?_,?_⟩
 · show m.len*120≤_;omega
 · show l.len*80≤_;omega
theorem right_gen (S:SchT) (n:ByteArray) (l m:Int) (v:VT) (c0 c1 c2:Value) (A3 A4:Option Addr) (k3 k4:Nat) (w:World) (B:Nat) (hB:B≤w.heap.size) (hw:Laid5 w) (hz:SlimS S) (hvz:sizeV v≤1100000) (hnm:n.size≤9223372036854775807)
  (hS:TS w (fun b=>b < B) (encSch S) [c0,c1,c2]) (hV:TS w (fun b=>b < B) (encV v) [.int .i64 v.kd,.int .i64 v.nn,.string v.ss,.slice A3 v.ls.len k3,.slice A4 v.ms.len k4]) :
  Calls Tryz.prog 115 #[.agg #[c0,c1,c2],.agg #[.string n,.int .i64 l,.int .i64 m],.agg #[.int .i64 v.kd,.int .i64 v.nn,.string v.ss,.slice A3 v.ls.len k3,.slice A4 v.ms.len k4]] w fun e w'=>e=.returned (.bool (rightL S.defs ⟨n,l,m,false,v⟩))∧Below w.heap.size w w':=by
 have hs:=Nat.le_trans (sz_size v) hvz
 have hb:=allP_bd S.defs ⟨n,l,m,false,v⟩
 have hb:(allP S.defs ⟨n,l,m,false,v⟩).length≤5*szV v:=hb
 exact right_any S n l m v c0 c1 c2 A3 A4 k3 k4 w B hB hw hz hvz _ rfl _ (by rw [List.length_map];unfold maxLen;omega) (slim_all S.defs ⟨n,l,m,false,v⟩ hs) (by omega) hnm hS hV
open Go.ChangeShapes Go.WideShapes Go.ChangeAt Go.RowKit
def OpenedV {H:Type} (W:World) (cs:List Value) (d:DataW H):Prop:=∃ v c0 c1 c2 c3 c4,cs=[c0,c1,c2,c3,c4]∧VAt W W.heap.size v c0 c1 c2 c3 c4∧RngV v∧sizeV v≤Rows.uptoBulk d∧((∀ m ∈ d.weights Tryz.prog 58,m≤reachBytes)→SlimV v)
def OpenedM {H:Type} (W:World) (cs:List Value) (d:DataW H):Prop:=∃ nm v c0 c1 c2 c3 c4,cs=[.string nm,c0,c1,c2,c3,c4]∧nm.size≤9223372036854775807∧VAt W W.heap.size v c0 c1 c2 c3 c4∧RngV v∧nm.size+sizeV v≤Rows.uptoBulk d∧((∀ m ∈ d.weights Tryz.prog 97,m≤reachBytes)→SlimV v)
theorem cells5 {W:World} {b o i:Nat} {c0 c1 c2 c3 c4:Value} {n:Nat} (h:W.cells? 0 ⟨b,o+i,none⟩ n=some [c0,c1,c2,c3,c4]):b < W.heap.size∧Five W b (o+i) c0 c1 c2 c3 c4:=by
 obtain ⟨_,hl,hat⟩:=World.cells?_some h
 simp only [List.length_cons,List.length_nil] at hl
 simp only [add_at] at hat
 have g0:=hat 0 (by omega)
 have g1:=hat 1 (by omega)
 have g2:=hat 2 (by omega)
 have g3:=hat 3 (by omega)
 have g4:=hat 4 (by omega)
 exact ⟨World.block_lt_of_cell? W _ (g0.trans rfl),g0.trans rfl,g1.trans rfl,g2.trans rfl,g3.trans rfl,g4.trans rfl⟩
theorem cells6 {W:World} {b o i:Nat} {c c0 c1 c2 c3 c4:Value} {n:Nat} (h:W.cells? 0 ⟨b,o+i,none⟩ n=some [c,c0,c1,c2,c3,c4]):b < W.heap.size∧W.cell? ⟨b,o+i,none⟩=some c∧Five W b (o+i+1) c0 c1 c2 c3 c4:=by
 obtain ⟨_,hl,hat⟩:=World.cells?_some h
 simp only [List.length_cons,List.length_nil] at hl
 simp only [add_at] at hat
 have g:=hat 0 (by omega)
 have g0:=hat 1 (by omega)
 have g1:=hat 2 (by omega)
 have g2:=hat 3 (by omega)
 have g3:=hat 4 (by omega)
 have g4:=hat 5 (by omega)
 exact ⟨World.block_lt_of_cell? W _ (g.trans rfl),g.trans rfl,g0.trans rfl,g1.trans rfl,g2.trans rfl,g3.trans rfl,g4.trans rfl⟩
theorem list_opened {H:Type} {W:World} {b o:Nat} {T:List Value→Option (DataW H × List MemPlace)} (IH:∀ cs x,T cs=some x→OpenedV W cs x.1):∀ (elems:List (DataW H × List MemPlace)) (j:Nat),
   (∀ i,i < elems.length→(W.cells? 0 ⟨b,o+(j+i)*5,none⟩ 5).bind T=elems[i]?) →
   ∃ l:VL,l.len=elems.length∧LAt W W.heap.size l (some ⟨b,o,none⟩) j∧RngL l∧sizeL l≤Rows.uptoBulkAll (elems.map (·.1))∧((∀ m ∈ DataW.weightsAll Tryz.prog 58 (elems.map (·.1)),m≤reachBytes)→SlimL l)
 | [],j,_=>⟨.nil,rfl,by unfold LAt;trivial,by unfold RngL;trivial,by rw [sizeL];exact Nat.zero_le _,fun _=>by unfold SlimL;trivial⟩
 | x :: elems,j,h=>by
   have h0:=h 0 (by simp)
   rw [Nat.add_zero] at h0
   obtain ⟨cs,hc,ht⟩:=Option.bind_eq_some_iff.1 (h0.trans rfl)
   obtain ⟨v,c0,c1,c2,c3,c4,rfl,hv,hr,hs,hw⟩:=IH cs x ht
   obtain ⟨hlt,hF⟩:=cells5 hc
   obtain ⟨l,h1,h2,h3,h4,h5⟩:=list_opened IH elems (j+1) (fun i hi=>by
     have:=h (i+1) (by simp;omega)
     rw [show j+(i+1)=j+1+i by omega] at this
     simpa using this)
   refine ⟨.cons v l,by rw [VL.len,h1,List.length_cons],by unfold LAt;exact ⟨⟨b,o,c0,c1,c2,c3,c4,rfl,hlt,hF,hv⟩,h2⟩,by unfold RngL;exact ⟨hr,h3⟩,?_,fun hm=>?_⟩
   · rw [sizeL,List.map_cons,Rows.uptoBulkAll];omega
   · rw [List.map_cons,DataW.weightsAll] at hm
     unfold SlimL
     exact ⟨hw (fun m h=>hm m (List.mem_append_left _ h)),h5 (fun m h=>hm m (List.mem_append_right _ h))⟩
theorem mems_opened {H:Type} {W:World} {b o:Nat} {T:List Value→Option (DataW H × List MemPlace)} (IH:∀ cs x,T cs=some x→OpenedM W cs x.1):∀ (elems:List (DataW H × List MemPlace)) (j:Nat),
   (∀ i,i < elems.length→(W.cells? 0 ⟨b,o+(j+i)*6,none⟩ 6).bind T=elems[i]?) →
   ∃ l:VM,l.len=elems.length∧MAt W W.heap.size l (some ⟨b,o,none⟩) j∧RngM l∧sizeM l≤Rows.uptoBulkAll (elems.map (·.1))∧((∀ m ∈ DataW.weightsAll Tryz.prog 97 (elems.map (·.1)),m≤reachBytes)→SlimM l)
 | [],j,_=>⟨.nil,rfl,by unfold MAt;trivial,by unfold RngM;trivial,by rw [sizeM];exact Nat.zero_le _,fun _=>by unfold SlimM;trivial⟩
 | x :: elems,j,h=>by
   have h0:=h 0 (by simp)
   rw [Nat.add_zero] at h0
   obtain ⟨cs,hc,ht⟩:=Option.bind_eq_some_iff.1 (h0.trans rfl)
   obtain ⟨nm,v,c0,c1,c2,c3,c4,rfl,hn,hv,hr,hs,hw⟩:=IH cs x ht
   obtain ⟨hlt,hN,hF⟩:=cells6 hc
   obtain ⟨l,h1,h2,h3,h4,h5⟩:=mems_opened IH elems (j+1) (fun i hi=>by
     have:=h (i+1) (by simp;omega)
     rw [show j+(i+1)=j+1+i by omega] at this
     simpa using this)
   refine ⟨.cons nm v l,by rw [VM.len,h1,List.length_cons],by unfold MAt;exact ⟨⟨b,o,c0,c1,c2,c3,c4,rfl,hlt,hN,hn,hF,hv⟩,h2⟩,by unfold RngM;exact ⟨hr,h3⟩,?_,fun hm=>?_⟩
   · rw [sizeM,List.map_cons,Rows.uptoBulkAll];omega
   · rw [List.map_cons,DataW.weightsAll] at hm
     unfold SlimM
     exact ⟨hw (fun m h=>hm m (List.mem_append_left _ h)),h5 (fun m h=>hm m (List.mem_append_right _ h))⟩
theorem bytesV:Tryz.prog.bytesOf 58=80:=by kernel_rfl
theorem bytesM:Tryz.prog.bytesOf 97=96:=by kernel_rfl
theorem spot_none {W:World} {a:Addr} {n:Nat} {cs:List Value} (hn:0 < n) (h:W.cells? 0 a n=some cs):a.spot=none:=by
 obtain ⟨_,hl,hat⟩:=World.cells?_some h
 have h2:=hat 0 (by omega)
 rw [List.getElem?_eq_getElem (by omega)] at h2
 have:=World.cell?_spot h2
 obtain ⟨b,o,spot⟩:=a
 simpa [Addr.add] using this
theorem slice_opened {H:Type} {enc:TypeId × Value→H} {W:World} {fuel:Nat} {cv:Value} {x:DataW H × List MemPlace} (IH:∀ n,n < fuel→∀ cs x,DataW.trod enc Tryz.prog W 0 (fun _=>true) true n 58 cs=some x→OpenedV W cs x.1)
   (h:DataW.trod enc Tryz.prog W 0 (fun _=>true) true fuel 55 [cv]=some x):∃ (l:VL) (A:Option Addr) (c:Nat),cv=.slice A l.len c∧l.len≤9223372036854775807∧LAt W W.heap.size l A 0∧RngL l∧sizeL l+1≤Rows.uptoBulk x.1∧((∀ m ∈ x.1.weights Tryz.prog 55,m≤reachBytes)→l.len*80≤140737488355328∧SlimL l):=by
 rcases DataW.trod_slice Tryz.underlying55 h with ⟨hc,rfl⟩|⟨a,len,cap,elems,rest,n',hn',hc,rfl,_,hlc,hcm,hel,hat,_⟩
 · simp only [List.cons.injEq,and_true] at hc
   exact ⟨.nil,none,0,hc,Nat.zero_le _,by unfold LAt;trivial,by unfold RngL;trivial,by simp [sizeL,Rows.uptoBulk],fun _=>⟨by simp [VL.len],by unfold SlimL;trivial⟩⟩
 · simp only [List.cons.injEq,and_true] at hc
   subst hel
   rw [cellsV] at hat
   obtain ⟨b,o,spot⟩:=a
   have hsp:0 < elems.length→spot=none:=fun hp=>by
     have h1:=hat 0 hp
     rw [List.getElem?_eq_getElem hp] at h1
     obtain ⟨cs',hc',_⟩:=Option.bind_eq_some_iff.1 h1
     exact spot_none (by omega) hc'
   rcases Nat.eq_zero_or_pos elems.length with hz|hz
   · have he:elems=[]:=List.eq_nil_of_length_eq_zero hz
     subst he
     exact ⟨.nil,_,cap,hc,Nat.zero_le _,by unfold LAt;trivial,by unfold RngL;trivial,by simp only [sizeL,Rows.uptoBulk];omega,fun _=>⟨by simp [VL.len],by unfold SlimL;trivial⟩⟩
   · obtain rfl:=hsp hz
     obtain ⟨l,h1,h2,h3,h4,h5⟩:=list_opened (T:=DataW.trod enc Tryz.prog W 0 (fun _=>true) true n' 58) (IH n' (by omega)) elems 0 (fun i hi=>by
       have:=hat i hi
       rwa [add_at,show i*5=(0+i)*5 by omega] at this)
     refine ⟨l,_,cap,by rw [hc,h1],by rw [h1];exact Nat.le_trans hlc hcm,h2,h3,?_,fun hm=>?_⟩
     · simp only [Rows.uptoBulk];omega
     · simp only [DataW.weights,Tryz.underlying55] at hm
       refine ⟨?_,h5 (fun m h=>hm m (List.mem_cons.2 (.inr (List.mem_append.2 (.inl h)))))⟩
       have:=hm _ (List.mem_cons.2 (.inl rfl))
       simp only [List.length_map,bytesV,reachBytes] at this
       rw [h1];omega
theorem mslice_opened {H:Type} {enc:TypeId × Value→H} {W:World} {fuel:Nat} {cv:Value} {x:DataW H × List MemPlace} (IH:∀ n,n < fuel→∀ cs x,DataW.trod enc Tryz.prog W 0 (fun _=>true) true n 58 cs=some x→OpenedV W cs x.1)
   (h:DataW.trod enc Tryz.prog W 0 (fun _=>true) true fuel 56 [cv]=some x):∃ (l:VM) (A:Option Addr) (c:Nat),cv=.slice A l.len c∧l.len≤9223372036854775807∧MAt W W.heap.size l A 0∧RngM l∧sizeM l+1≤Rows.uptoBulk x.1∧((∀ m ∈ x.1.weights Tryz.prog 56,m≤reachBytes)→l.len*96≤140737488355328∧SlimM l):=by
 rcases DataW.trod_slice Tryz.underlying56 h with ⟨hc,rfl⟩|⟨a,len,cap,elems,rest,n',hn',hc,rfl,_,hlc,hcm,hel,hat,_⟩
 · simp only [List.cons.injEq,and_true] at hc
   exact ⟨.nil,none,0,hc,Nat.zero_le _,by unfold MAt;trivial,by unfold RngM;trivial,by simp [sizeM,Rows.uptoBulk],fun _=>⟨by simp [VM.len],by unfold SlimM;trivial⟩⟩
 · simp only [List.cons.injEq,and_true] at hc
   subst hel
   rw [cellsM] at hat
   obtain ⟨b,o,spot⟩:=a
   have hsp:0 < elems.length→spot=none:=fun hp=>by
     have h1:=hat 0 hp
     rw [List.getElem?_eq_getElem hp] at h1
     obtain ⟨cs',hc',_⟩:=Option.bind_eq_some_iff.1 h1
     exact spot_none (by omega) hc'
   have IHM:∀ cs x,DataW.trod enc Tryz.prog W 0 (fun _=>true) true n' 97 cs=some x→OpenedM W cs x.1:=by
     intro cs x ht
     obtain ⟨ys,n2,hn2,rfl,hl2,hyl,hf2⟩:=DataW.trod_struct Tryz.underlying97 ht
     rw [cellsM] at hl2
     obtain ⟨d,d0,d1,d2,d3,d4,rfl⟩:=six_list hl2
     have p0:DataW.trod enc Tryz.prog W 0 (fun _=>true) true n2 9 [d]=ys[0]?:=by have h':DataW.trod enc Tryz.prog W 0 (fun _=>true) true n2 9 (([d,d0,d1,d2,d3,d4].drop 0).take (Tryz.prog.cellsOf 9))=ys[0]?:=hf2 0 _ rfl;rw [cellsS] at h';exact h'
     have p1:DataW.trod enc Tryz.prog W 0 (fun _=>true) true n2 58 [d0,d1,d2,d3,d4]=ys[1]?:=by have h':DataW.trod enc Tryz.prog W 0 (fun _=>true) true n2 58 (([d,d0,d1,d2,d3,d4].drop 1).take (Tryz.prog.cellsOf 58))=ys[1]?:=hf2 1 _ rfl;rw [cellsV] at h';exact h'
     match ys,hyl with
     | [z0,z1],_ =>
       obtain ⟨t,e2,hz0,htz⟩:=DataW.trod_string Tryz.underlying9 (p0.trans rfl)
       obtain ⟨v,c0,c1,c2,c3,c4,hcs,hv,hr,hs,hw⟩:=IH n2 (by omega) _ z1 (p1.trans rfl)
       simp only [List.cons.injEq,and_true] at e2 hcs
       obtain ⟨rfl,rfl,rfl,rfl,rfl⟩:=hcs
       subst e2
       refine ⟨t,v,_,_,_,_,_,rfl,htz,hv,hr,?_,fun hm=>hw (fun m h=>hm m ?_)⟩
       · simp only [List.map_cons,List.map_nil,Rows.uptoBulk,Rows.uptoBulkAll,hz0]
         have:t.data.toList.length=t.size:=Array.length_toList
         omega
       · simp only [List.map_cons,List.map_nil,DataW.weights,Tryz.underlying97,DataW.weightsEach]
         exact List.mem_append_right _ (List.mem_append_left _ h)
   rcases Nat.eq_zero_or_pos elems.length with hz|hz
   · have he:elems=[]:=List.eq_nil_of_length_eq_zero hz
     subst he
     exact ⟨.nil,_,cap,hc,Nat.zero_le _,by unfold MAt;trivial,by unfold RngM;trivial,by simp only [sizeM,Rows.uptoBulk];omega,fun _=>⟨by simp [VM.len],by unfold SlimM;trivial⟩⟩
   · obtain rfl:=hsp hz
     obtain ⟨l,h1,h2,h3,h4,h5⟩:=mems_opened (T:=DataW.trod enc Tryz.prog W 0 (fun _=>true) true n' 97) IHM elems 0 (fun i hi=>by
       have:=hat i hi
       rwa [add_at,show i*6=(0+i)*6 by omega] at this)
     refine ⟨l,_,cap,by rw [hc,h1],by rw [h1];exact Nat.le_trans hlc hcm,h2,h3,?_,fun hm=>?_⟩
     · simp only [Rows.uptoBulk];omega
     · simp only [DataW.weights,Tryz.underlying56] at hm
       refine ⟨?_,h5 (fun m h=>hm m (List.mem_cons.2 (.inr (List.mem_append.2 (.inl h)))))⟩
       have:=hm _ (List.mem_cons.2 (.inl rfl))
       simp only [List.length_map,bytesM,reachBytes] at this
       rw [h1];omega
theorem value_opened {H:Type} {enc:TypeId × Value→H} {W:World} : ∀ (fuel:Nat) (cs:List Value) (x:DataW H × List MemPlace),DataW.trod enc Tryz.prog W 0 (fun _=>true) true fuel 58 cs=some x→OpenedV W cs x.1:=by
 intro fuel
 induction fuel using Nat.strongRecOn with
 | ind fuel ih =>
   intro cs x h
   obtain ⟨xs,n,rfl,rfl,hl,hxl,hf⟩:=DataW.trod_struct Tryz.underlying58 h
   rw [cellsV] at hl
   obtain ⟨c0,c1,c2,c3,c4,rfl⟩:=five_list hl
   have f0:DataW.trod enc Tryz.prog W 0 (fun _=>true) true n 3 [c0]=xs[0]?:=by have h':DataW.trod enc Tryz.prog W 0 (fun _=>true) true n 3 (([c0,c1,c2,c3,c4].drop 0).take (Tryz.prog.cellsOf 3))=xs[0]?:=hf 0 _ rfl;rw [cellsI] at h';exact h'
   have f1:DataW.trod enc Tryz.prog W 0 (fun _=>true) true n 2 [c1]=xs[1]?:=by have h':DataW.trod enc Tryz.prog W 0 (fun _=>true) true n 2 (([c0,c1,c2,c3,c4].drop 1).take (Tryz.prog.cellsOf 2))=xs[1]?:=hf 1 _ rfl;rw [cellsI64] at h';exact h'
   have f2:DataW.trod enc Tryz.prog W 0 (fun _=>true) true n 9 [c2]=xs[2]?:=by have h':DataW.trod enc Tryz.prog W 0 (fun _=>true) true n 9 (([c0,c1,c2,c3,c4].drop 2).take (Tryz.prog.cellsOf 9))=xs[2]?:=hf 2 _ rfl;rw [cellsS] at h';exact h'
   have f3:DataW.trod enc Tryz.prog W 0 (fun _=>true) true n 55 [c3]=xs[3]?:=by have h':DataW.trod enc Tryz.prog W 0 (fun _=>true) true n 55 (([c0,c1,c2,c3,c4].drop 3).take (Tryz.prog.cellsOf 55))=xs[3]?:=hf 3 _ rfl;rw [cellsLV] at h';exact h'
   have f4:DataW.trod enc Tryz.prog W 0 (fun _=>true) true n 56 [c4]=xs[4]?:=by have h':DataW.trod enc Tryz.prog W 0 (fun _=>true) true n 56 (([c0,c1,c2,c3,c4].drop 4).take (Tryz.prog.cellsOf 56))=xs[4]?:=hf 4 _ rfl;rw [cellsLM] at h';exact h'
   match xs,hxl with
   | [y0,y1,y2,y3,y4],_ =>
     obtain ⟨k,e0,hy0,_⟩:=DataW.trod_int Tryz.underlying3 (f0.trans rfl)
     obtain ⟨m,e1,hy1,wf⟩:=DataW.trod_int Tryz.underlying2 (f1.trans rfl)
     obtain ⟨t,e2,hy2,ht⟩:=DataW.trod_string Tryz.underlying9 (f2.trans rfl)
     obtain ⟨l,A,c,h3,g3,h4,r3,s3,w3⟩:=slice_opened (fun n' hn'=>ih n' (by omega)) (f3.trans rfl)
     obtain ⟨l',A',c',h5,g5,h6,r5,s5,w5⟩:=mslice_opened (fun n' hn'=>ih n' (by omega)) (f4.trans rfl)
     simp only [List.cons.injEq,and_true] at e0 e1 e2
     subst e0 e1 e2 h3 h5
     refine ⟨.mk k m t l l',_,_,_,_,_,rfl,by unfold VAt;exact ⟨rfl,rfl,rfl,ht,⟨A,c,rfl,g3,h4⟩,A',c',rfl,g5,h6⟩,?_,?_,fun hm=>?_⟩
     · unfold RngV
       refine ⟨?_,r3,r5⟩
       have hw:=wf
       simp only [Lit.wf] at hw
       have hw2:(-9223372036854775808≤m)∧m≤9223372036854775807:=by
        simpa [Bool.and_eq_true,IntKind.min,IntKind.max,IntKind.signed,IntKind.bits] using hw
       exact hw2
     · simp only [List.map_cons,List.map_nil,Rows.uptoBulk,Rows.uptoBulkAll,hy0,hy1,hy2]
       have:t.data.toList.length=t.size:=Array.length_toList
       rw [sizeV]
       omega
     · simp only [List.map_cons,List.map_nil,DataW.weights,Tryz.underlying58,DataW.weightsEach,hy0,hy1,hy2] at hm
       unfold SlimV
       have a3:=w3 (fun m h=>hm m (by simp only [List.mem_append];simp [h]))
       have a5:=w5 (fun m h=>hm m (by simp only [List.mem_append];simp [h]))
       exact ⟨a3.1,a5.1,a3.2,a5.2⟩
end Go.Proofs.YtaekdfcpbepepaaGreatDoor
