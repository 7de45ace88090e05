/- The iterator of literal's places. (gen_iter.py wrote it.) -/
import Derived.Test.YtaekdfcpbepepaaGreatDoorQb10
import Derived.Sort.LoopGhostIn
import Derived.Sort.CutIn
import Derived.WalkSmall
set_option maxRecDepth 100000
set_option maxHeartbeats 8000000
namespace Go.Proofs.YtaekdfcpbepepaaGreatDoor
open Go.RowKit
theorem pl_cells {w:World} {P:Nat→Prop} {x:PlT} {cs:List Value} (h:TS w P (encPl x) cs):∃ A3 k3 A4 k4,cs=[.string x.tn,.int .i64 x.tl,.int .i64 x.tm,.bool x.has,.int .i64 x.v.kd,.int .i64 x.v.nn,.string x.v.ss,.slice A3 x.v.ls.len k3,.slice A4 x.v.ms.len k4]∧x.tn.size≤9223372036854775807∧TS w P (encV x.v) [.int .i64 x.v.kd,.int .i64 x.v.nn,.string x.v.ss,.slice A3 x.v.ls.len k3,.slice A4 x.v.ms.len k4]:=by
 unfold encPl at h
 simp only [TS,TP] at h
 obtain ⟨_,_,rfl,⟨rfl,h0⟩,_,_,rfl,⟨rfl,_⟩,_,_,rfl,⟨rfl,_⟩,_,_,rfl,⟨rfl,_⟩,h5⟩:=h
 obtain ⟨A3,k3,A4,k4,rfl,_⟩:=encv_cells h5
 exact ⟨A3,k3,A4,k4,rfl,h0,h5⟩
theorem STK.shape {G:Gh} {W:World} {B base:Nat} {V:Value} {stk:List (List PlT)} (h:STK G W B base V stk):∃ A c,V=.slice A stk.length c:=by
 obtain ⟨vs,h1,_⟩:=h
 exact shape_own h1
theorem STK.last {G:Gh} {W:World} {B base:Nat} {V:Value} {init:List (List PlT)} {l:List PlT} (h:STK G W B base V (init++[l])):∃ g cp A c,V=.slice (some ⟨g,0,none⟩) (init.length+1) cp∧init.length+1≤cp∧base≤g∧g < W.heap.size∧(¬ G.1 g∧¬ G.2 g)∧W.cell? ⟨g,init.length,none⟩=some (.slice A l.length c)∧l.length≤c∧PlsZ G W B base (some g) l A:=by
 obtain ⟨vs,h1,h2,h3⟩:=h
 obtain ⟨A,c,h4,h5,h6⟩:=h2 init.length l (by simp)
 have hlt:=fun k e=>h1.lt k e
 obtain ⟨g,cp,rfl,hb,hg⟩:=World.ownsRow.form h1 (by simp)
 rw [List.length_append,List.length_singleton] at h1 ⊢
 refine ⟨g,cp,A,c,rfl,by
  rcases h1.2 with ⟨e,_⟩|⟨g',cap,cur,e,_,_,hnc,_⟩
  · cases e
  · simp only [Value.slice.injEq,true_and] at e
    obtain ⟨_,rfl⟩:=e
    exact hnc,hb,hg,h3 g rfl,?_,h5,h6⟩
 have:=h1.cells (g:=g) rfl init.length _ h4
 rw [add_at] at this
 simpa using this
theorem nine_row {w:World} {g o:Nat} {c0 c1 c2 c3 c4 c5 c6 c7 c8:Value} (h:∀ (i:Nat) u,[c0,c1,c2,c3,c4,c5,c6,c7,c8][i]? = some u→w.cell? ⟨g,o+i,none⟩=some u):w.cell? ⟨g,o,none⟩=some c0∧w.cell? ⟨g,o+1,none⟩=some c1∧w.cell? ⟨g,o+2,none⟩=some c2∧w.cell? ⟨g,o+3,none⟩=some c3∧w.cell? ⟨g,o+4,none⟩=some c4∧w.cell? ⟨g,o+5,none⟩=some c5∧w.cell? ⟨g,o+6,none⟩=some c6∧w.cell? ⟨g,o+7,none⟩=some c7∧w.cell? ⟨g,o+8,none⟩=some c8:=
 ⟨h 0 _ rfl,h 1 _ rfl,h 2 _ rfl,h 3 _ rfl,h 4 _ rfl,h 5 _ rfl,h 6 _ rfl,h 7 _ rfl,h 8 _ rfl⟩
theorem STK.pop {G:Gh} {W:World} {B base g cp:Nat} {init:List (List PlT)} {l:List PlT} (h:STK G W B base (.slice (some ⟨g,0,none⟩) (init.length+1) cp) (init++[l])):STK G W B base (.slice (some ⟨g,0,none⟩) init.length cp) init:=by
 obtain ⟨vs,h1,h2,h3⟩:=h
 have hl:vs.length=init.length+1:=by have:=h1.1;simpa using this
 have hvs:vs=vs.take init.length++vs.drop init.length:=(List.take_append_drop _ _).symm
 rw [List.length_append,List.length_singleton] at h1
 rw [hvs] at h1
 refine ⟨vs.take init.length,ownsRow_pop (by rw [List.length_take];omega) h1,fun j l' hj=>?_,h3⟩
 have hjl:j < init.length:=(List.getElem?_eq_some_iff.1 hj).1
 obtain ⟨A,c,g1,g2,g3⟩:=h2 j l' (by rw [List.getElem?_append_left hjl];exact hj)
 exact ⟨A,c,by rw [List.getElem?_take_of_lt hjl];exact g1,g2,g3⟩
theorem flat_len (D:List DefnT):∀ l:List PlT,l.length≤(l.flatMap (allP D)).length
 | []=>Nat.le_refl _
 | x :: t=>by
   have:=flat_len D t
   rw [left_cons,List.length_cons,List.length_cons,List.length_append]
   omega
theorem stk_start {G:Gh} {B:Nat} {W:World} {p0:PlT} {A3 A4:Option Addr} {k3 k4:Nat} (hz:∀ b,G.1 b→b < W.heap.size) (hu:∀ b,G.2 b→b < W.heap.size) (hBW:B≤W.heap.size) (hP:TS W (fun b=>b < B) (encPl p0) [.string p0.tn,.int .i64 p0.tl,.int .i64 p0.tm,.bool p0.has,.int .i64 p0.v.kd,.int .i64 p0.v.nn,.string p0.v.ss,.slice A3 p0.v.ls.len k3,.slice A4 p0.v.ms.len k4]) :
   STK G ((W.alloc (.cells #[.string p0.tn,.int .i64 p0.tl,.int .i64 p0.tm,.bool p0.has,.int .i64 p0.v.kd,.int .i64 p0.v.nn,.string p0.v.ss,.slice A3 p0.v.ls.len k3,.slice A4 p0.v.ms.len k4] 163)).alloc (.cells #[.slice (some ⟨W.heap.size,0,none⟩) 1 1] 172)) B W.heap.size (.slice (some ⟨W.heap.size+1,0,none⟩) 1 1) [[p0]]:=by
 have e1:(W.alloc (.cells #[.string p0.tn,.int .i64 p0.tl,.int .i64 p0.tm,.bool p0.has,.int .i64 p0.v.kd,.int .i64 p0.v.nn,.string p0.v.ss,.slice A3 p0.v.ls.len k3,.slice A4 p0.v.ms.len k4] 163)).heap.size=W.heap.size+1:=by simp
 refine ⟨[.slice (some ⟨W.heap.size,0,none⟩) 1 1],⟨by simp,.inr ⟨W.heap.size+1,1,#[.slice (some ⟨W.heap.size,0,none⟩) 1 1],rfl,Nat.le_succ _,heap_two _ _ _,Nat.le_refl _,by decide,by simp,by simp⟩⟩,fun j l hj=>?_,fun k e=>?_⟩
 · obtain ⟨rfl,rfl⟩:j=0∧l=[p0]:=by
     cases j with
     | zero=>exact ⟨rfl,by simpa using hj.symm⟩
     | succ j=>simp at hj
   refine ⟨_,1,rfl,Nat.le_refl _,fun j x hx=>?_,fun _ g o e=>?_⟩
   · obtain ⟨rfl,rfl⟩:j=0∧x=p0:=by
       cases j with
       | zero=>exact ⟨rfl,by simpa using hx.symm⟩
       | succ j=>simp at hx
     refine ⟨W.heap.size,0,_,rfl,Nat.le_refl _,by simp;omega,TS.keep (P':=fun b=>b < B) (fun b hb=>⟨hb,?_⟩) _ _ hP,fun i u hu=>?_⟩
     · rcases Nat.lt_or_ge b W.heap.size with h|h
       · exact (tbl W _ _).block b h
       · exact absurd hb (by omega)
     · have:=nine_news W _ _ _ _ _ _ _ _ _ 163 rfl i u hu
       rw [add_at] at this
       rw [show 0+0*9+i=0+i by omega]
       exact (World.cell?_of_block (a:=⟨W.heap.size,_,none⟩) (Below.heap_alloc _ _ _ (by simp))).trans this
   · injection e with e
     injection e with e _ _
     exact ⟨fun h => by have := hz g h; omega, fun h => by have := hu g h; omega, fun h => by have h:W.heap.size+1=g:=by simpa [Value.ownBlock] using h
                                                                                              omega⟩
 · have e:W.heap.size+1=k:=by simpa [Value.ownBlock] using e
   exact ⟨fun h=>by have:=hz k h;omega,fun h=>by have:=hu k h;omega⟩
theorem cinfo_row:∃ i z,Tryz.prog.info? 172=some i∧i.zero=some z∧i.size=1∧i.bytes=24∧z.cells.size=1:=info_of (by kernel_rfl)
theorem one_news (w:World) (c:Value) (t:TypeId) {n:Nat} (hn:n=w.heap.size):∀ (j:Nat) u,[c][j]? = some u→(w.alloc (.cells #[c] t)).cell? ((⟨n,0,none⟩:Addr).add j)=some u:=by
 subst hn
 intro j u hu
 rw [add_at,Nat.zero_add]
 match j,hu with
 | 0,hu=>cases hu;rw [World.cell?_alloc_at _ _ _ _ rfl];rfl
theorem own_moves {W W5 W6:World} {g:Nat} {o:Obj} (h5:W.grownBy W5 (some g)) (h6:(W5.alloc o).grownBy W6 (some g)):MoX g W W6:=by
 have hs5:=h5.size
 have hs6:=h6.size
 have ha:(W5.alloc o).heap.size=W5.heap.size+1:=by simp
 exact ⟨h6.os.trans h5.os,h6.tape.trans h5.tape,h6.output.trans h5.output,by omega,fun b hb hne=>(h6.block b (by omega) (fun e=>hne (by injection e))).trans ((Below.heap_alloc _ _ _ (by omega)).trans (h5.block b hb (fun e=>hne (by injection e))))⟩
theorem tz_own {S:SchT} {KS:List ByteArray} {M base g:Nat} {G:Gh} {W W6:World} (hg:base≤g) (hz : ¬ G.1 g) (hu : ¬ G.2 g) (hM:M < base) (_hl:∀ b,G.2 b→b < W.heap.size) (h:MoX g W W6):TZ S.defs KS M base G G W W6:=
 ⟨rfl,⟨h.os,h.tape,h.output,h.size,fun b hb hn=>h.block b hb (fun e=>hn (.inr ⟨e ▸ hg,e ▸ hz⟩))⟩,fun k=>k.keep h.size (h.block M k.ok.lt (by omega)) (fun b hb=>h.block b (k.lt b hb) (fun e=>hu (e ▸ hb))),fun _ h=>.inl h,fun _ h=>h⟩
theorem STK.push {G:Gh} {W W6:World} {B base g cp g6 cap6 c5 c6:Nat} {init:List (List PlT)} {l l' L:List PlT} {A5 A6:Option Addr} {o:Obj} {vs:List Value} (hBb:B≤base) (_hbW:base≤W.heap.size) (hz:∀ b,G.1 b→b < W.heap.size) (hu:∀ b,G.2 b→b < W.heap.size)
   (h1:W.ownsRow base 172 1 (.slice (some ⟨g,0,none⟩) (init.length+1) cp) (init.length+1) vs) (h2:∀ (j:Nat) l',(init++[l])[j]? = some l'→∃ A c,vs[j]? = some (.slice A l'.length c)∧l'.length≤c∧PlsZ G W B base (some g) l' A) (h3 : ¬ G.1 g∧¬ G.2 g)
   (h5:PlsZ G W B base (some g) l' A5) (hc5:l'.length≤c5) (h6:PlsZ G W B base (some g) L A6) (hc6:L.length≤c6)
   (hown6:W6.ownsRow base 172 1 (.slice (some ⟨g6,0,none⟩) (init.length+1+1) cap6) (init.length+1+1) (vs.set init.length (.slice A5 l'.length c5)++[.slice A6 L.length c6]))
   (hg6:((W.setCell ⟨g,init.length,none⟩ (.slice A5 l'.length c5)).alloc o).grownBy W6 (some g)) (hat:(some g:Option Nat)=some g6∨g6=((W.setCell ⟨g,init.length,none⟩ (.slice A5 l'.length c5)).alloc o).heap.size) :
   STK G W6 B base (.slice (some ⟨g6,0,none⟩) (init.length+1+1) cap6) (init++[l']++[L]):=by
 have hgl:=h1.lt g rfl
 have hs6:=hg6.size
 have hs5:((W.setCell ⟨g,init.length,none⟩ (.slice A5 l'.length c5)).alloc o).heap.size=W.heap.size+1:=by simp [World.setCell]
 have hk:∀ b,b < W.heap.size→b ≠ g→W6.heap[b]? = W.heap[b]?:=fun b hb hne=>(hg6.block b (by omega) (fun e=>hne (by injection e))).trans ((Below.heap_alloc _ _ _ (by simpa [World.setCell] using hb)).trans (Below.heap_setCell _ _ _ _ hne))
 have hg6':g6=g∨W.heap.size≤g6:=by
   rcases hat with h|h
   · exact .inl (by injection h with h;exact h.symm)
   · exact .inr (by omega)
 have hkeep:∀ {ll:List PlT} {AA:Option Addr},PlsZ G W B base (some g) ll AA→PlsZ G W6 B base (some g6) ll AA:=fun hp=>hp.blk (by omega) (fun b hb=>hk b (by omega) (by omega)) (fun b _ p2 _ _ p5=>hk b p2 (fun e=>p5 (by rw [e]))) (fun b p1 p2 p3 p4=>⟨p2,p3,fun e=>by
   injection e with e
   subst e
   rcases hg6' with h|h
   · exact p4 (by rw [h])
   · omega⟩)
 have hlv:vs.length=init.length+1:=by have:=h1.1;simpa using this
 refine ⟨_,by rw [show (init++[l']++[L]).length=init.length+1+1 by simp];exact hown6,fun j ll hj=>?_,fun k e=>?_⟩
 · show ∃ A c,_∧_∧PlsZ G W6 B base (some g6) ll A
   rcases Nat.lt_or_ge j init.length with hj1|hj1
   · rw [List.append_assoc,List.getElem?_append_left hj1] at hj
     obtain ⟨A,c,p1,p2,p3⟩:=h2 j ll (by rw [List.getElem?_append_left hj1];exact hj)
     refine ⟨A,c,?_,p2,hkeep p3⟩
     rw [List.getElem?_append_left (by rw [List.length_set];omega),List.getElem?_set_ne (by omega)]
     exact p1
   · rcases Nat.eq_or_lt_of_le hj1 with hj2|hj2
     · subst hj2
       obtain rfl:l'=ll:=by simpa using hj
       refine ⟨A5,c5,?_,hc5,hkeep h5⟩
       rw [List.getElem?_append_left (by rw [List.length_set];omega),List.getElem?_set_self (by omega)]
     · obtain rfl:j=init.length+1:=by
        have:=(List.getElem?_eq_some_iff.1 hj).1
        simp at this
        omega
       obtain rfl:L=ll:=by simpa using hj
       refine ⟨A6,c6,?_,hc6,hkeep h6⟩
       rw [List.getElem?_append_right (by rw [List.length_set];omega),List.length_set,hlv]
       simp
 · have e:g6=k:=by simpa [Value.ownBlock] using e
   subst e
   rcases hg6' with h|h
   · rw [h];exact h3
   · exact ⟨fun hh=>by have:=hz _ hh;omega,fun hh=>by have:=hu _ hh;omega⟩
theorem pls_drop {G:Gh} {W:World} {B base bg o:Nat} {own:Option Nat} {l:List PlT} {k:Nat} (h:PlsZ G W B base own l (some ⟨bg,o,none⟩)):PlsZ G W B base own (l.drop k) (some ⟨bg,o+k*9,none⟩):=by
 refine ⟨fun j x hx=>?_,fun hl g' o' e=>?_⟩
 · rw [List.getElem?_drop] at hx
   obtain ⟨g,o2,cs,e,h2,h3,h4,h5⟩:=h.1 (k+j) x hx
   have e:=Option.some.inj e
   injection e with e1 e2 _
   subst e1 e2
   exact ⟨bg,o+k*9,cs,rfl,h2,h3,h4,fun i u hu=>by have:=h5 i u hu;rwa [show o+(k+j)*9+i=o+k*9+j*9+i by omega] at this⟩
 · have e:=Option.some.inj e
   injection e with e1 _ _
   subst e1
   exact h.2 (fun e=>hl (by rw [e,List.drop_nil])) _ _ rfl
theorem pls_nil {G:Gh} {W:World} {B base:Nat} {own:Option Nat} (A:Option Addr):PlsZ G W B base own [] A:=⟨fun j x hx=>by simp at hx,fun h=>absurd rfl h⟩
theorem pls_new {G:Gh} {W':World} {B base g K:Nat} {l:List PlT} {A:Option Addr} (h:PlsAt W' B K l A) (hb:base≤K) (hz:∀ b,G.1 b→b < K) (hu:∀ b,G.2 b→b < K) (hg:g < K):PlsZ G W' B base (some g) l A:=by
 refine ⟨h.base hb,fun hl g' o' e=>?_⟩
 obtain ⟨x,hx⟩:=List.exists_mem_of_ne_nil l hl
 obtain ⟨j,hj⟩:=List.mem_iff_getElem?.1 hx
 obtain ⟨g2,o2,cs,h1,h2,_⟩:=h j x hj
 rw [h1] at e
 have e:=Option.some.inj e
 injection e with e1 _ _
 subst e1
 exact ⟨fun hh=>by have:=hz _ hh;omega,fun hh=>by have:=hu _ hh;omega,fun hh=>by injection hh with hh;omega⟩
def LiesP (XS:List PlT) (B:Nat) (i:Nat) (cs:List Value) (W:World):Prop:=∃ x,XS[i]? = some x∧TS W (fun b=>b < B) (encPl x) cs
def encP (cs:List Value):Array Value:=#[.agg cs.toArray]
def SlimP (KS:List ByteArray) (x:PlT):Prop:=x.tn ∈ KS∧x.v.ms.len*120≤140737488355328∧x.v.ls.len*80≤140737488355328
theorem iter_in (n:Nat) (hn1:1≤n) (S:SchT) (KS:List ByteArray) (hKS:KS.length≤maxLen) (hz:SlimS S) (M B pb sb:Nat) (c0 c1 c2:Value) (p0:PlT) (A3 A4:Option Addr) (k3 k4:Nat) (XS:List PlT) (hXS:XS=allP S.defs p0) (hsl:∀ x,x ∈ XS→SlimP KS x) (hN:XS.length≤1099511627776)
  (base l:Nat) (J:Nat→Gh→World→Prop) (Jx:Nat→World→Prop) (hJ:∀ i G G' A B,J i G A→TZ S.defs KS M base G G' A B→J i G' B)
  (hY:∀ i x G W,i < XS.length→J i G W→LiesP XS B i x W→YieldAt Fence.wide (n - 1) Tryz.prog l (encP x) W fun e W'=>(e=.returned (.bool true)∧∃ G',J (i+1) G' W'∧RZ S.defs KS M G G' W W')∨(e=.returned (.bool false)∧Jx i W'))
  (G0:Gh) (W:World) (hbase:base=W.heap.size) (hJ0:J 0 G0 W) (hE0:IE S KS M B pb sb base c0 c1 c2 #[.string p0.tn,.int .i64 p0.tl,.int .i64 p0.tm,.bool p0.has,.int .i64 p0.v.kd,.int .i64 p0.v.nn,.string p0.v.ss,.slice A3 p0.v.ls.len k3,.slice A4 p0.v.ms.len k4] G0 W) (hP0:TS W (fun b=>b < B) (encPl p0) [.string p0.tn,.int .i64 p0.tl,.int .i64 p0.tm,.bool p0.has,.int .i64 p0.v.kd,.int .i64 p0.v.nn,.string p0.v.ss,.slice A3 p0.v.ls.len k3,.slice A4 p0.v.ms.len k4]) :
  CallsIn Fence.wide n Tryz.prog 178 (#[.func (.yield l) #[] #[]] ++ #[.pointer (some ⟨pb,0,none⟩),.pointer (some ⟨sb,0,none⟩)]) W fun e W'=>(∃ v,e=.returned v)∧((∃ G,J XS.length G W')∨∃ i,i < XS.length∧Jx i W'):=by
 have HE0:=Hd hE0
 have HP0:=Hd hP0
 have HJ:=Hd hJ
 have HY:=Hd hY
 have HJ0:=Hd hJ0
 have HSL:=Hd hsl
 have HZ:=Hd hz
 have HXS:=Hd hXS
 obtain ⟨i1,z1,hi1,hz10,hz11,hz12,hz13⟩:=cinfo_row
 clear hE0 hP0 hJ hY hJ0 hsl hz hXS
 obtain ⟨⟨y0,y1,y2,y3,y4,y5,y6,y7,y8⟩,_⟩:=nine_cells HE0.out.pbox
 refine callsIn_wide.2 ?_
 rw [show (#[.func (.yield l) #[] #[]] ++ #[.pointer (some ⟨pb,0,none⟩),.pointer (some ⟨sb,0,none⟩)]:Array Value)=#[.func (.yield l) #[] #[],.pointer (some ⟨pb,0,none⟩),.pointer (some ⟨sb,0,none⟩)] from rfl]
 go_enter Tryz.func178,Tryz.ntmps178
 go_wp2_with fail
 go_step3
 go_wp2_with fail
 go_step3
 have S1:=Hd (stk_start (G:=G0) (B:=B) HE0.out.zlt HE0.out.ok.lt (by have h1:=HE0.out.hB;have h2:=HE0.out.hMb;have h3:=HE0.out.hbase;omega) HP0.out)
 have T1:=Hd (TZ.of_below (S:=S) (KS:=KS) (M:=M) (G:=G0) (base:=base) HE0.out.ok.lt HE0.out.ok.ok.lt (tbl W (.cells #[.string p0.tn,.int .i64 p0.tl,.int .i64 p0.tm,.bool p0.has,.int .i64 p0.v.kd,.int .i64 p0.v.nn,.string p0.v.ss,.slice A3 p0.v.ls.len k3,.slice A4 p0.v.ms.len k4] 163) (.cells #[.slice (some ⟨W.heap.size,0,none⟩) 1 1] 172)))
 clear y0 y1 y2 y3 y4 y5 y6 y7 y8
 go_wp2_with fail
 generalize (W.alloc (.cells #[.string p0.tn,.int .i64 p0.tl,.int .i64 p0.tm,.bool p0.has,.int .i64 p0.v.kd,.int .i64 p0.v.nn,.string p0.v.ss,.slice A3 p0.v.ls.len k3,.slice A4 p0.v.ms.len k4] 163)).alloc (.cells #[.slice (some ⟨W.heap.size,0,none⟩) 1 1] 172)=w1 at S1 T1 ⊢
 rw [← hbase] at S1 ⊢
 clear hbase
 go_loopg [4] (2*XS.length+1) (fun g v wx=>Aside (∃ i G stk,i≤XS.length∧J i G wx∧IE S KS M B pb sb base c0 c1 c2 #[.string p0.tn,.int .i64 p0.tl,.int .i64 p0.tm,.bool p0.has,.int .i64 p0.v.kd,.int .i64 p0.v.nn,.string p0.v.ss,.slice A3 p0.v.ls.len k3,.slice A4 p0.v.ms.len k4] G wx∧STK G wx B base v stk∧XS.drop i=leftP S.defs stk∧stk.length≤i+1∧2*(XS.length - i)+stk.length≤g))
 case atStart=>exact Blk.Aside.intro ⟨0,G0,[[p0]],Nat.zero_le _,HJ.out _ _ _ _ _ HJ0.out T1.out,HE0.out.t T1.out,S1.out,by rw [HXS.out,List.drop_zero];unfold leftP;simp,by simp,by simp⟩
 case round =>
  obtain ⟨i,G,stk,hi,hj,hie,hst,hdr,hsl,hms⟩:=hrel.out
  have HJI:=Hd hj
  have HIE:=Hd hie
  have HDR:=Hd hdr
  clear hrel hj hie hdr S1 T1
  rcases List.eq_nil_or_concat stk with rfl|⟨init,l1,rfl⟩
  · obtain ⟨Ao,co,rfl⟩:=hst.shape
    have hfin:=HDR.out
    clear hst
    go_wp2_with fail
    rw [Exit.noGoto_normal]
    go_end0
    have h1:XS.length≤i:=by
     have h:=congrArg List.length hfin
     rw [List.length_drop] at h
     have h2:(leftP S.defs []).length=0:=rfl
     omega
    obtain rfl:i=XS.length:=by omega
    exact ⟨⟨_,rfl⟩,.inl ⟨G,HJI.out⟩⟩
  · rw [List.concat_eq_append] at hst HDR hsl hms
    have HST:=Hd hst
    obtain ⟨g,cp,A,c,rfl,hcp,hbg,hgl,hzg,hcell,hlc,hpl⟩:=hst.last
    rw [List.length_append,List.length_singleton] at hsl hms
    have hll:l1.length≤XS.length:=by
     have h:=congrArg List.length HDR.out
     rw [leftP_snoc,List.length_append,List.length_drop] at h
     have:=flat_len S.defs l1
     omega
    clear hst hpl
    go_wp2_with fail
    go_loopg [4,23] l1.length (fun g2 v t wx=>∃ k:Nat,k+g2=l1.length∧t=.int .i64 k∧v=.slice (some ⟨g,0,none⟩) (init.length+1) cp∧Aside (∃ i' G',i≤i'∧i'≤XS.length∧J i' G' wx∧IE S KS M B pb sb base c0 c1 c2 #[.string p0.tn,.int .i64 p0.tl,.int .i64 p0.tm,.bool p0.has,.int .i64 p0.v.kd,.int .i64 p0.v.nn,.string p0.v.ss,.slice A3 p0.v.ls.len k3,.slice A4 p0.v.ms.len k4] G' wx∧STK G' wx B base (.slice (some ⟨g,0,none⟩) (init.length+1) cp) (init++[l1])∧XS.drop i'=(l1.drop k).flatMap (allP S.defs)++leftP S.defs init∧wx.cell? ⟨g,init.length,none⟩=some (.slice A l1.length c)))
    case atStart=>exact ⟨0,by omega,rfl,rfl,Blk.Aside.intro ⟨i,G,Nat.le_refl _,hi,HJI.out,HIE.out,HST.out,by rw [HDR.out,leftP_snoc,List.drop_zero],hcell⟩⟩
    case round =>
     obtain ⟨k,hk,rfl,rfl,HX⟩:=hrel
     obtain ⟨i',G',hii,hiN,hj,hie,hst,hdr,hcl⟩:=HX.out
     have HJ2:=Hd hj
     have HI2:=Hd hie
     have HS2:=Hd hst
     have HD2:=Hd hdr
     obtain ⟨g',cp',A',c',e1,_,hbg',hgl',hzg',hcell',hlc',hpl'⟩:=hst.last
     simp only [Value.slice.injEq,Option.some.injEq,Addr.mk.injEq,and_true,true_and] at e1
     obtain ⟨rfl,rfl⟩:=e1
     rw [hcl] at hcell'
     have e2:=Option.some.inj hcell'
     simp only [Value.slice.injEq,true_and] at e2
     obtain ⟨rfl,rfl⟩:=e2
     clear HX hj hie hst hdr hcell'
     cases gk with
     | zero =>
       obtain rfl:k=l1.length:=by omega
       have hpop:=HS2.out.pop
       have hdr2:=HD2.out
       rw [List.drop_length,List.flatMap_nil,List.nil_append] at hdr2
       have HPOP:=Hd hpop
       have HDR2:=Hd hdr2
       clear hpop hdr2
       go_wp2_with fail
       go_roundg (2*(XS.length - i')+init.length)
       case measure=>omega
       case rel=>exact Blk.Aside.intro ⟨i',G',init,hiN,HJ2.out,HI2.out,HPOP.out,HDR2.out,by omega,Nat.le_refl _⟩
     | succ g2 =>
       have hkl:k < l1.length:=by omega
       have hkl':(k:Int) < (l1.length:Int):=by omega
       obtain ⟨x,hx⟩:∃ x,l1[k]? = some x:=⟨_,List.getElem?_eq_getElem hkl⟩
       obtain ⟨bg,o,cs,rfl,⟨hgb,hgw,hz1,hz2,hz3⟩,hT,hcs⟩:=hpl'.at hx
       obtain ⟨E3,j3,E4,j4,rfl,htn,_⟩:=pl_cells hT
       have hcons:l1.drop k=x :: l1.drop (k+1):=by rw [List.drop_eq_getElem_cons hkl];congr 1;exact (List.getElem?_eq_some_iff.1 hx).2
       have hD:=HD2.out
       rw [hcons,left_cons,List.cons_append] at hD
       have hxi:XS[i']? = some x:=by
         have h:=congrArg List.head? hD
         rwa [List.head?_drop,List.head?_cons] at h
       have hilt:i' < XS.length:=(List.getElem?_eq_some_iff.1 hxi).1
       have hD3:XS.drop (i'+1)=((withinL S.defs x).flatMap (allP S.defs)++(l1.drop (k+1)).flatMap (allP S.defs))++leftP S.defs init:=by
         have h:=congrArg List.tail hD
         rwa [List.tail_drop,List.tail_cons] at h
       have HD3:=Hd hD3
       have HXI:=Hd hxi
       have HT:=Hd hT
       obtain ⟨f0,f1,f2,f3,f4,f5,f6,f7,f8⟩:=nine_row hcs
       have hsx:=Hd (HSL.out x (List.mem_of_getElem? hxi))
       clear hcons hD hD3 hxi hT hcs hx
       go_upto_region 6 with fail
       clear f0 f1 f2 f3 f4 f5 f6 f7 f8
       have t2:=Hd (TZ.of_below (S:=S) (KS:=KS) (M:=M) (G:=G') (base:=base) HI2.out.ok.lt HI2.out.ok.ok.lt (dbelow_new wr (.cells #[.string x.tn,.int .i64 x.tl,.int .i64 x.tm,.bool x.has,.int .i64 x.v.kd,.int .i64 x.v.nn,.string x.v.ss,.slice E3 x.v.ls.len j3,.slice E4 x.v.ms.len j4] 163)))
       have Y2:=heap_alloc_new wr (.cells #[.string x.tn,.int .i64 x.tl,.int .i64 x.tm,.bool x.has,.int .i64 x.v.kd,.int .i64 x.v.nn,.string x.v.ss,.slice E3 x.v.ls.len j3,.slice E4 x.v.ms.len j4] 163)
       have J2:=HJ.out _ _ _ _ _ HJ2.out t2.out
       have I2:=Hd (HI2.out.t t2.out)
       have hBw2:B≤wr.heap.size:=by have h1:=HI2.out.hB;have h2:=HI2.out.hMb;have h3:=HI2.out.hbase;omega
       have S2:=Hd (HS2.out.below hBw2 (dbelow_new wr (.cells #[.string x.tn,.int .i64 x.tl,.int .i64 x.tm,.bool x.has,.int .i64 x.v.kd,.int .i64 x.v.nn,.string x.v.ss,.slice E3 x.v.ls.len j3,.slice E4 x.v.ms.len j4] 163)))
       have hzx : ¬ G'.1 wr.heap.size∧¬ G'.2 wr.heap.size:=⟨fun h=>Nat.lt_irrefl _ (HI2.out.zlt _ h),fun h=>Nat.lt_irrefl _ (HI2.out.ok.lt _ h)⟩
       have hbx:base≤wr.heap.size:=HI2.out.hbase
       have T2:=Hd (TS.low ((dbelow_new wr (.cells #[.string x.tn,.int .i64 x.tl,.int .i64 x.tm,.bool x.has,.int .i64 x.v.kd,.int .i64 x.v.nn,.string x.v.ss,.slice E3 x.v.ls.len j3,.slice E4 x.v.ms.len j4] 163)).mono hBw2) HT.out)
       have c2:=((dbelow_new wr (.cells #[.string x.tn,.int .i64 x.tl,.int .i64 x.tm,.bool x.has,.int .i64 x.v.kd,.int .i64 x.v.nn,.string x.v.ss,.slice E3 x.v.ls.len j3,.slice E4 x.v.ms.len j4] 163)).cell (p:=⟨g,init.length,none⟩) hgl').trans hcl
       have hgx2:g < (wr.alloc (.cells #[.string x.tn,.int .i64 x.tl,.int .i64 x.tm,.bool x.has,.int .i64 x.v.kd,.int .i64 x.v.nn,.string x.v.ss,.slice E3 x.v.ls.len j3,.slice E4 x.v.ms.len j4] 163)).heap.size:=by simp;omega
       generalize wr.alloc (.cells #[.string x.tn,.int .i64 x.tl,.int .i64 x.tm,.bool x.has,.int .i64 x.v.kd,.int .i64 x.v.nn,.string x.v.ss,.slice E3 x.v.ls.len j3,.slice E4 x.v.ms.len j4] 163)=w2 at t2 Y2 J2 I2 S2 T2 c2 hgx2 ⊢
       generalize wr.heap.size=gx at Y2 hzx hbx ⊢
       have HY2:=Hd Y2
       obtain ⟨⟨y0,y1,y2,y3,y4,y5,y6,y7,y8⟩,_⟩:=nine_cells Y2
       obtain ⟨fn,tmps,assign,body,hy,hR⟩:=HY.out i' _ G' w2 hilt J2 ⟨x,HXI.out,T2.out⟩
       have hy:(Instr.yield l #[.agg #[.string x.tn,.int .i64 x.tl,.int .i64 x.tm,.bool x.has,.int .i64 x.v.kd,.int .i64 x.v.nn,.string x.v.ss,.slice E3 x.v.ls.len j3,.slice E4 x.v.ms.len j4]]).run Tryz.prog w2=.ok (.round l fn tmps assign body) w2:=hy
       have HRR:=Hd hR
       clear hR Y2 J2 HJ2 HI2 HS2 t2
       refine (wpIn_wide (n:=n)).1 ?_
       gi_wp2
       refine HRR.out.mono ?_
       rintro e W' (⟨rfl,G2,hj3,hr3⟩|⟨rfl,hjx⟩)
       · gi_wp2
         have HJ3:=Hd hj3
         have I3:=Hd (I2.out.r hr3)
         have S3:=Hd (S2.out.r I2.out hr3)
         have hgx3:gx < w2.heap.size:=(Array.getElem?_eq_some_iff.1 HY2.out).1
         have hMx:M < base:=I2.out.hMb
         have hBM:B≤M:=I2.out.hB
         have Y3:=Hd ((hr3.mo.block gx hgx3 (fun e=>by rcases e with e|e;omega;exact hzx.1 e)).trans HY2.out)
         have hcl3:=(World.cell?_of_block (a:=⟨g,init.length,none⟩) (hr3.mo.block g hgx2 (fun e=>by rcases e with e|e;omega;exact hzg'.1 e))).trans c2
         have hs3:=hr3.mo.size
         have hb2:base≤w2.heap.size:=I2.out.hbase
         have T3:=Hd (TS.keep (P':=fun b=>b < B) (fun b hb=>⟨hb,hr3.mo.block b (by omega) (fun e=>by rcases e with e|e;omega;exact I2.out.zB b hb e)⟩) _ _ T2.out)
         have HCL:=Hd hcl3
         have hgW:g < W'.heap.size:=by omega
         clear hj3 hr3 hcl3 c2 HY2 T2 S2 I2 hy HRR y0 y1 y2 y3 y4 y5 y6 y7 y8
         obtain ⟨⟨y0,y1,y2,y3,y4,y5,y6,y7,y8⟩,_⟩:=nine_cells Y3.out
         obtain ⟨x0,x1,x2,x3⟩:=four_cells I3.out.sbox
         obtain ⟨F3,m3,F4,m4,ee,_,hTv⟩:=pl_cells T3.out
         simp only [List.cons.injEq,Value.slice.injEq,and_true,true_and] at ee
         obtain ⟨⟨rfl,rfl⟩,rfl,rfl⟩:=ee
         have hMW:=I3.out.ok.ok.lt
         have WC:=Hd (within_c S x.tn x.tl x.tm x.has x.v c0 c1 c2 E3 E4 j3 j4 W' B M (XU G2.2 W') KS I3.out.hB (fun b h=>h.1) ⟨hMW,I3.out.ok.no⟩ (fun b hb h=>h.2 (I3.out.uB b hb)) hsx.out.1 hKS (by unfold maxLen;exact htn) HZ.out hsx.out.2.1 hsx.out.2.2 I3.out.sch hTv I3.out.ok.xu)
         clear hTv
         go_wp2_with fail
         refine WC.out.mono ?_
         rintro e W4 ⟨A6,c6,K6,rfl,hlc6,⟨hk1,hk2⟩,hp6,hm6,ho6⟩
         have t4:=Hd (TZ.of_mo (S:=S) (KS:=KS) (M:=M) (base:=base) (G:=G2) hm6 I3.out.ok ho6 hk1 hk2)
         have J4:=Hd (HJ.out _ _ _ _ _ HJ3.out t4.out)
         have I4:=Hd (I3.out.t t4.out)
         have S4:=Hd (S3.out.mo I3.out hm6 K6)
         have hcl4:=(World.cell?_of_block (a:=⟨g,init.length,none⟩) (hm6.block g hgW (by omega))).trans HCL.out
         have hgK:g < K6:=by omega
         have PL:=Hd (pls_new (base:=base) (G:=(G2.1,U3 G2.2 W' K6)) (g:=g) hp6 (by omega) (fun b hb=>Nat.lt_of_lt_of_le (I3.out.zlt b hb) hk1) (fun b hb=>hb.1) hgK)
         have hs4:=hm6.size
         have hlcc:=Hd hlc6
         obtain ⟨L,hL⟩:∃ L,withinL S.defs x=L:=⟨_,rfl⟩
         change Hid (PlsZ _ _ _ _ _ (withinL S.defs x) _) at PL
         change Hid ((withinL S.defs x).length≤c6) at hlcc
         rw [hL] at HD3 PL hlcc
         rw [show withinL S.defs ⟨x.tn,x.tl,x.tm,x.has,x.v⟩=L from hL]
         clear hp6 hm6 ho6 hlc6 x0 x1 x2 x3 y0 y1 y2 y3 y4 y5 y6 y7 y8 WC Y3 T3 I3 S3 t4 HJ3 hL
         generalize (G2.1,U3 G2.2 W' K6)=G4 at J4 I4 S4 PL
         rcases L with _|⟨z,L⟩
         · have hd:=HD3.out
           rw [List.flatMap_nil,List.nil_append] at hd
           have HD4:=Hd hd
           clear hd PL hlcc
           go_wp2_with fail
           go_roundg g2
           case measure=>omega
           case rel=>exact ⟨k+1,by omega,by go_num,rfl,Blk.Aside.intro ⟨i'+1,G4,by omega,hilt,J4.out,I4.out,S4.out,HD4.out,hcl4⟩⟩
         · obtain ⟨LL,hLL⟩:∃ LL,z :: L=LL:=⟨_,rfl⟩
           have hpos:0 < LL.length:=by rw [← hLL];simp
           have hpos':(0:Int) < (LL.length:Int):=by omega
           rw [hLL] at HD3 PL hlcc ⊢
           clear hLL
           obtain ⟨g5,cp5,A5,c5,e5,_,_,_,hzg4,hce5,hlc5,hpl5⟩:=S4.out.last
           simp only [Value.slice.injEq,Option.some.injEq,Addr.mk.injEq,and_true,true_and] at e5
           obtain ⟨rfl,rfl⟩:=e5
           rw [hcl4] at hce5
           have e6:=Option.some.inj hce5
           simp only [Value.slice.injEq,true_and] at e6
           obtain ⟨rfl,rfl⟩:=e6
           obtain ⟨vs,hown,hvs,hzz⟩:=S4.out
           rw [List.length_append,List.length_singleton] at hown
           have HPL5:=Hd hpl5
           have HOW:=Hd hown
           have HVS:=Hd hvs
           have hfz:=hown.frozenAt init.length
           have hk1:k+1≤l1.length:=hkl
           have hk1':(k:Int)+1≤(l1.length:Int):=by omega
           have hgW4:g < W4.heap.size:=by omega
           clear hpl5 hown hvs hce5
           have hBb:B≤base:=by have h1:=I4.out.hB;have h2:=I4.out.hMb;omega
           have hb4:base≤W4.heap.size:=I4.out.hbase
           have hsl2:init.length+1≤1099511627777:=by omega
           obtain ⟨l5,hl5⟩:∃ l5,l1.drop (k+1)=l5:=⟨_,rfl⟩
           rw [hl5] at HD3
           have HL5:=Hd hl5
           clear hl5
           by_cases hck:c=k+1
           · subst hck
             have hl1:l1.length=k+1:=by omega
             go_upto_region 10 with fail
             have hcut:Hid (∃ A5 c5,Value.slice (some ⟨bg,o,none⟩) 0 0=.slice A5 l5.length c5∧l5.length≤c5∧PlsZ G4 W4 B base (some g) (l5) A5):=Hd (by
              have e:=HL5.out
              subst e
              exact ⟨some ⟨bg,o,none⟩,0,by rw [List.length_drop,hl1,Nat.sub_self],by rw [List.length_drop];omega,by rw [List.drop_of_length_le (by omega)];exact pls_nil _⟩)
             generalize Value.slice (some ⟨bg,o,none⟩) 0 0=sv at hcut ⊢
             obtain ⟨A5,c5,rfl,hc5,hp5⟩:=hcut.out
             have HP5:=Hd hp5
             have HC5:=Hd hc5
             have OW5:=Hd ((HOW.out.stored init.length (.slice A5 l5.length c5)).1)
             have G5:=Hd ((HOW.out.stored init.length (.slice A5 l5.length c5)).2)
             have hs5:(W4.setCell ⟨g,init.length,none⟩ (.slice A5 l5.length c5)).heap.size=W4.heap.size:=by simp [World.setCell]
             clear hcut hp5 hc5 hfz
             go_wp2_with (at_builtin;go_loud (refine wpList_append_lies _ rfl _ _ 173 rfl base 172 i1 z1 1 24 Tryz.underlying173 hi1 hz10 hz11 hz12 hz13 (by decide) _ (init.length+1) (vs.set init.length (.slice A5 l5.length c5)) rfl (OW5.out.alloc _) _ 1 1 [.slice A6 LL.length c6] rfl rfl (one_news _ _ _ (by first|rfl|(simp;done))) (by intro y hy;simp at hy;subst hy;rfl) (by decide) (by unfold maxLen;omega) (by omega) (by simp;omega) _ rfl ?_;intro g6 cap6 W6 hown6 hgrow hat hlt6;have HG6:=Hd hgrow;have HO6:=Hd hown6;have HT6:=Hd hat;clear hgrow hown6 hat))
             have hmv:=own_moves G5.out HG6.out
             go_roundg (2*(XS.length - (i'+1))+init.length+2)
             case measure=>omega
             case rel =>
              have T6:=tz_own (S:=S) (KS:=KS) (M:=M) (base:=base) (G:=G4) (g:=g) hbg' hzg4.1 hzg4.2 I4.out.hMb I4.out.ok.lt hmv
              refine Blk.Aside.intro ⟨i'+1,G4,init++[l5]++[LL],hilt,HJ.out _ _ _ _ _ J4.out T6,I4.out.t T6,?_,?_,by simp;omega,by simp;omega⟩
              · exact STK.push hBb hb4 I4.out.zlt I4.out.ok.lt HOW.out HVS.out hzg4 HP5.out HC5.out PL.out hlcc.out HO6.out HG6.out HT6.out
              · rw [HD3.out,leftP_snoc,leftP_snoc,List.append_assoc]
           · have hck':k+1 < c:=by omega
             have hck2 : ¬ c=k+1:=hck
             go_upto_region 10 with fail
             have hcut:Hid (∃ A5 c5,Value.slice (some ⟨bg,o+(k+1)*9,none⟩) (l1.length - (k+1)) (c - (k+1))=.slice A5 l5.length c5∧l5.length≤c5∧PlsZ G4 W4 B base (some g) (l5) A5):=Hd (by
              have e:=HL5.out
              subst e
              exact ⟨some ⟨bg,o+(k+1)*9,none⟩,c - (k+1),by rw [List.length_drop],by rw [List.length_drop];omega,pls_drop HPL5.out⟩)
             generalize Value.slice (some ⟨bg,o+(k+1)*9,none⟩) (l1.length - (k+1)) (c - (k+1))=sv at hcut ⊢
             obtain ⟨A5,c5,rfl,hc5,hp5⟩:=hcut.out
             have HP5:=Hd hp5
             have HC5:=Hd hc5
             have OW5:=Hd ((HOW.out.stored init.length (.slice A5 l5.length c5)).1)
             have G5:=Hd ((HOW.out.stored init.length (.slice A5 l5.length c5)).2)
             have hs5:(W4.setCell ⟨g,init.length,none⟩ (.slice A5 l5.length c5)).heap.size=W4.heap.size:=by simp [World.setCell]
             clear hcut hp5 hc5 hfz
             go_wp2_with (at_builtin;go_loud (refine wpList_append_lies _ rfl _ _ 173 rfl base 172 i1 z1 1 24 Tryz.underlying173 hi1 hz10 hz11 hz12 hz13 (by decide) _ (init.length+1) (vs.set init.length (.slice A5 l5.length c5)) rfl (OW5.out.alloc _) _ 1 1 [.slice A6 LL.length c6] rfl rfl (one_news _ _ _ (by first|rfl|(simp;done))) (by intro y hy;simp at hy;subst hy;rfl) (by decide) (by unfold maxLen;omega) (by omega) (by simp;omega) _ rfl ?_;intro g6 cap6 W6 hown6 hgrow hat hlt6;have HG6:=Hd hgrow;have HO6:=Hd hown6;have HT6:=Hd hat;clear hgrow hown6 hat))
             have hmv:=own_moves G5.out HG6.out
             go_roundg (2*(XS.length - (i'+1))+init.length+2)
             case measure=>omega
             case rel =>
              have T6:=tz_own (S:=S) (KS:=KS) (M:=M) (base:=base) (G:=G4) (g:=g) hbg' hzg4.1 hzg4.2 I4.out.hMb I4.out.ok.lt hmv
              refine Blk.Aside.intro ⟨i'+1,G4,init++[l5]++[LL],hilt,HJ.out _ _ _ _ _ J4.out T6,I4.out.t T6,?_,?_,by simp;omega,by simp;omega⟩
              · exact STK.push hBb hb4 I4.out.zlt I4.out.ok.lt HOW.out HVS.out hzg4 HP5.out HC5.out PL.out hlcc.out HO6.out HG6.out HT6.out
              · rw [HD3.out,leftP_snoc,leftP_snoc,List.append_assoc]
       · gi_wp2
         go_wp2_with fail
         rw [Exit.noGoto_ret]
         refine bodyPost_ret (results_none rfl _ _ _) rfl ?_
         exact ⟨⟨_,rfl⟩,.inr ⟨i',hilt,hjx⟩⟩
end Go.Proofs.YtaekdfcpbepepaaGreatDoor
