/- The landed reader of documents: what its functions promise, and the blocks of their walks. -/
import Derived.Test.YtkmloefbkgcbkaaGreatDoorSr13
import Derived.Defers
import Derived.Recover
import Derived.Laws.EntriesVeiled
import Derived.Lib.ConvBytes
import Derived.Laws.Strings3
import Derived.Laws.Closers25
import Derived.Laws.Closers25b
import Derived.BigCall
import Derived.BigGuard
import Derived.Lib.Walk
set_option maxRecDepth 100000
set_option maxHeartbeats 4000000
namespace Go.Proofs.YtkmloefbkgcbkaaGreatDoor
open Go.RowKit
def Ca {α:Type} (r d:Nat) (w:World) (lay:World→(Nat→Prop)→α→Value→Prop) (R:Except Int (α × List Tok)) (e:Ending) (w':World):Prop:=
 match R with
 | .ok (a,ts')=>(∃ v,e=.returned v∧lay w' (Y7 w w') a v)∧Rd w' r ts' d∧Z0 r w w'
 | .error x=>e=Yb x∧Z0 r w w'
def N9 {α:Type} (enc:α→TrS) (w:World) (P:Nat→Prop) (a:α) (v:Value):Prop:=∃ cs:List Value,v=.agg cs.toArray∧TS w P (enc a) cs
def Yfq {α:Type} (enc:α→TrL) (w:World) (P:Nat→Prop) (a:α) (v:Value):Prop:=TP w P (.row (enc a)) v
theorem per {α:Type} {r d:Nat} {w w':World} {lay:World→(Nat→Prop)→α→Value→Prop} {R:Except Int (α × List Tok)} {x:Int} (hR:R=.error x) (m:Z0 r w w'):Ca r d w lay R (Yb x) w':=by subst hR;exact ⟨rfl,m⟩
theorem Yy {α:Type} {r d:Nat} {w w':World} {lay:World→(Nat→Prop)→α→Value→Prop} {R:Except Int (α × List Tok)} {a:α} {ts':List Tok} {v:Value} (hR:R=.ok (a,ts')) (hl:lay w' (Y7 w w') a v) (hr:Rd w' r ts' d) (m:Z0 r w w'):Ca r d w lay R (.returned v) w':=by subst hR;exact ⟨⟨v,rfl,hl⟩,hr,m⟩
theorem Ji {α:Type} {r d:Nat} {w w':World} {lay:World→(Nat→Prop)→α→Value→Prop} {x:Int} {e:Ending} (h:Ca r d w lay (.error x) e w'):e=Yb x∧Z0 r w w':=h
theorem Uv {α:Type} {r d:Nat} {w w':World} {lay:World→(Nat→Prop)→α→Value→Prop} {a:α} {ts':List Tok} {e:Ending} (h:Ca r d w lay (.ok (a,ts')) e w'):(∃ v,e=.returned v∧lay w' (Y7 w w') a v)∧Rd w' r ts' d∧Z0 r w w':=h
theorem Jq {k:Int} {s:ByteArray} {ts:List Tok} (h:atB k s ts=true):Xs k s ts=ts.tail:=by unfold Xs;rw [if_pos h]
theorem Uh {k:Int} {s:ByteArray} {ts:List Tok} (h:atB k s ts=false):Xs k s ts=ts:=by unfold Xs;rw [h];rfl
theorem TS.nil (w:World) (P:Nat→Prop):TS w P .nil []:=by unfold TS;rfl
theorem TS.str {w:World} {P:Nat→Prop} {s:ByteArray} {t:TrS} {cs:List Value} (hs:s.size≤9000) (h:TS w P t cs):TS w P (.cons (.one (.string s)) t) (.string s :: cs):=by
 rw [TS];exact ⟨_,_,rfl,by unfold TP;exact ⟨rfl,by show s.size≤_;omega⟩,h⟩
theorem TS.int {w:World} {P:Nat→Prop} {z:Int} {t:TrS} {cs:List Value} (h:TS w P t cs):TS w P (.cons (.one (.int .i64 z)) t) (.int .i64 z :: cs):=by
 rw [TS];exact ⟨_,_,rfl,by unfold TP;exact ⟨rfl,trivial⟩,h⟩
theorem TS.bool {w:World} {P:Nat→Prop} {b:Bool} {t:TrS} {cs:List Value} (h:TS w P t cs):TS w P (.cons (.one (.bool b)) t) (.bool b :: cs):=by
 rw [TS];exact ⟨_,_,rfl,by unfold TP;exact ⟨rfl,trivial⟩,h⟩
theorem TS.row {w:World} {P:Nat→Prop} {l:TrL} {c:Value} {t:TrS} {cs:List Value} (hl:TP w P (.row l) c) (h:TS w P t cs):TS w P (.cons (.row l) t) (c :: cs):=by
 rw [TS];exact ⟨_,_,rfl,hl,h⟩
theorem TP.none (w:World) (P:Nat→Prop):TP w P (.row .nil) (.slice none 0 0):=by
 unfold TP;exact ⟨_,_,rfl,Nat.zero_le _,by unfold Xc;trivial⟩
theorem Us {α:Type} {enc:α→TrL} {w:World} {P:Nat→Prop} {a:α} {v:Value} (h:Yfq enc w P a v):∃ A c,v=.slice A (enc a).len c∧TP w P (.row (enc a)) (.slice A (enc a).len c):=by
 have h0:=h;unfold Yfq TP at h0;obtain ⟨A,c,rfl,_⟩:=h0;exact ⟨A,c,rfl,h⟩
def setAll (W:World) (b:Nat):Nat→List Value→World
 | _,[]=>W
 | i,x :: t=>setAll (W.setCell ⟨b,i,none⟩ x) b (i+1) t
theorem Vz (b:Nat):∀ (xs:List Value) (i:Nat) (W:World),(setAll W b i xs).heap.size=W.heap.size
 | [],_,_=>rfl
 | x :: t,i,W=>by rw [setAll,Vz b t];simp [World.setCell]
theorem Xk {b k:Nat} (hk:k ≠ b):∀ (xs:List Value) (i:Nat) (W:World),(setAll W b i xs).heap[k]? = W.heap[k]?
 | [],_,_=>rfl
 | x :: t,i,W=>by rw [setAll,Xk hk t,Below.heap_setCell _ _ _ _ hk]
theorem Bm {b:Nat} {t:TypeId} : ∀ (xs:List Value) (pre:List Value) (ys:List Value) (W:World),ys.length=xs.length→W.heap[b]? = some (.cells (pre++ys).toArray t (0,0))→(setAll W b pre.length xs).heap[b]? = some (.cells (pre++xs).toArray t (0,0))
 | [],pre,ys,W,hl,h=>by
   have:ys=[]:=List.eq_nil_of_length_eq_zero hl;subst this;exact h
 | x :: xs,pre,ys,W,hl,h=>by
   cases ys with
   | nil=>cases hl
   | cons y ys =>
     rw [setAll];have h2:=heap_setCell_same W b pre.length _ t x h
     have e:((pre++y :: ys).toArray.setIfInBounds pre.length x)=((pre++[x])++ys).toArray:=by
      simp
     rw [e] at h2;have:=Bm xs (pre++[x]) ys (W.setCell ⟨b,pre.length,none⟩ x) (by simpa using hl) h2;rw [List.length_append,List.length_singleton] at this;rw [this];simp
theorem Yu {b:Nat} {t:TypeId} {xs ys:List Value} {W:World} (hl:ys.length=xs.length) (h:W.heap[b]? = some (.cells ys.toArray t (0,0))):(setAll W b 0 xs).heap[b]? = some (.cells xs.toArray t (0,0)):=
 Bm xs [] ys W hl h
theorem Z0.setAll {r b:Nat} {w:World} (hb:w.heap.size≤b):∀ (xs:List Value) (i:Nat) (W:World),Z0 r w W→Z0 r w (setAll W b i xs)
 | [],_,_,h=>h
 | x :: t,i,W,h=>by rw [Proofs.YtkmloefbkgcbkaaGreatDoor.setAll];exact Z0.setAll hb t _ _ (h.put hb)
theorem Rd.setAll {r b:Nat} {ts:List Tok} {d:Nat} (hb:r < b):∀ (xs:List Value) (i:Nat) (W:World),Rd W r ts d→Rd (setAll W b i xs) r ts d
 | [],_,_,h=>h
 | x :: t,i,W,h=>by rw [Proofs.YtkmloefbkgcbkaaGreatDoor.setAll];exact Rd.setAll hb t _ _ (h.set hb)
theorem Ja {B b:Nat} {W:World} (hb:B≤b):∀ (xs:List Value) (i:Nat) (W':World),Below B W W'→Below B W (setAll W' b i xs)
 | [],_,_,h=>h
 | x :: t,i,W',h=>by rw [Proofs.YtkmloefbkgcbkaaGreatDoor.setAll];exact Ja hb t _ _ (h.setCell (p:=⟨b,i,none⟩) hb x)
structure S0 (w:World) (r:Nat) (W:World) (o:Obj) (ts:List Tok) (d:Nat):Prop where
 res:W.heap[w.heap.size]? = some o
 mv:Z0 r w W
 hr:r < w.heap.size
 rd:Rd W r ts d
 k:KRd r W
theorem S0.lt {w:World} {r:Nat} {W:World} {o:Obj} {ts:List Tok} {d:Nat} (h:S0 w r W o ts d):w.heap.size < W.heap.size:=(Array.getElem?_eq_some_iff.1 h.res).1
theorem S0.start {w:World} {r:Nat} {ts:List Tok} {d:Nat} (hR:Rd w r ts d) (hK:KRd r w) (cs:Array Value) (t:TypeId):S0 w r (w.alloc (.cells cs t)) (.cells cs t (0,0)) ts d:=
 ⟨heap_alloc_new _ _,Z0.of_below (blw _ _),hR.lt,hR.below (blw _ _),hK.moved (Z0.of_below (blw _ _))⟩
theorem S0.next {w:World} {r:Nat} {W W':World} {o:Obj} {ts ts':List Tok} {d d':Nat} (h:S0 w r W o ts d) (rd:Rd W' r ts' d') (m:Z0 r W W'):S0 w r W' o ts' d':=
 ⟨m.keep h.res (by have:=h.hr;omega),h.mv.trans m,h.hr,rd,h.k.moved m⟩
structure S1 (w:World) (r:Nat) (W:World) (o:Obj) (b:Nat) (o1:Obj) (ts:List Tok) (d:Nat):Prop where
 res:W.heap[w.heap.size]? = some o
 loc:W.heap[b]? = some o1
 bl:w.heap.size < b
 mv:Z0 r w W
 hr:r < w.heap.size
 rd:Rd W r ts d
 k:KRd r W
theorem S1.blt {w:World} {r:Nat} {W:World} {o:Obj} {b:Nat} {o1:Obj} {ts:List Tok} {d:Nat} (h:S1 w r W o b o1 ts d):b < W.heap.size:=(Array.getElem?_eq_some_iff.1 h.loc).1
theorem S1.rb {w:World} {r:Nat} {W:World} {o:Obj} {b:Nat} {o1:Obj} {ts:List Tok} {d:Nat} (h:S1 w r W o b o1 ts d):r < b:=Nat.lt_trans h.hr h.bl
theorem S1.of {w:World} {r:Nat} {W W':World} {o o1:Obj} {ts:List Tok} {d:Nat} (h:S0 w r W o ts d) (hl:W'.heap[W.heap.size]? = some o1) (hb:Below W.heap.size W W'):S1 w r W' o W.heap.size o1 ts d:=
 ⟨(hb.block _ h.lt).trans h.res,hl,h.lt,h.mv.trans (Z0.of_below hb),h.hr,h.rd.below hb,h.k.moved (Z0.of_below hb)⟩
theorem S1.make {w:World} {r:Nat} {W:World} {o:Obj} {ts:List Tok} {d:Nat} (h:S0 w r W o ts d) (cs:Array Value) (t:TypeId):S1 w r (W.alloc (.cells cs t)) o W.heap.size (.cells cs t (0,0)) ts d:=
 S1.of h (heap_alloc_new _ _) (blw _ _)
theorem S1.next {w:World} {r:Nat} {W W':World} {o:Obj} {b:Nat} {o1:Obj} {ts ts':List Tok} {d d':Nat} (h:S1 w r W o b o1 ts d) (rd:Rd W' r ts' d') (m:Z0 r W W'):S1 w r W' o b o1 ts' d':=
 ⟨m.keep h.res (by have:=h.hr;omega),m.keep h.loc (by have:=h.rb;omega),h.bl,h.mv.trans m,h.hr,rd,h.k.moved m⟩
theorem S1.put {w:World} {r:Nat} {W:World} {o:Obj} {b:Nat} {cs:Array Value} {t:TypeId} {ts:List Tok} {d:Nat} (h:S1 w r W o b (.cells cs t (0,0)) ts d) (i:Nat) (v:Value):S1 w r (W.setCell ⟨b,i,none⟩ v) o b (.cells (cs.setIfInBounds i v) t (0,0)) ts d:=
 ⟨V6 h.res (by have:=h.bl;omega),heap_setCell_same _ _ _ _ _ _ h.loc,h.bl,h.mv.put (Nat.le_of_lt h.bl),h.hr,h.rd.set h.rb,h.k.set h.rb⟩
def Ov (b:Nat) (W:World) (x:Tr) (c:Value):Prop:=TP W (fun k=>b < k∧k < W.heap.size) x c
def OvS (b:Nat) (W:World) (x:TrS) (c:List Value):Prop:=TS W (fun k=>b < k∧k < W.heap.size) x c
theorem Ov.of {b:Nat} {W W':World} {x:Tr} {c:Value} (h:TP W' (Y7 W W') x c) (hb:b < W.heap.size):Ov b W' x c:=TP.keep (fun _ hk=>⟨⟨Nat.lt_of_lt_of_le hb hk.1,hk.2⟩,rfl⟩) _ _ h
theorem OvS.of {b:Nat} {W W':World} {x:TrS} {c:List Value} (h:TS W' (Y7 W W') x c) (hb:b < W.heap.size):OvS b W' x c:=TS.keep (fun _ hk=>⟨⟨Nat.lt_of_lt_of_le hb hk.1,hk.2⟩,rfl⟩) _ _ h
theorem Ov.next {b r:Nat} {W W':World} {x:Tr} {c:Value} (h:Ov b W x c) (m:Z0 r W W') (hr:r < b):Ov b W' x c:=TP.keep (fun k hk=>⟨⟨hk.1,Nat.lt_of_lt_of_le hk.2 m.size⟩,m.block k hk.2 (fun e=>by have:=hk.1;injection e;omega)⟩) _ _ h
theorem OvS.next {b r:Nat} {W W':World} {x:TrS} {c:List Value} (h:OvS b W x c) (m:Z0 r W W') (hr:r < b):OvS b W' x c:=TS.keep (fun k hk=>⟨⟨hk.1,Nat.lt_of_lt_of_le hk.2 m.size⟩,m.block k hk.2 (fun e=>by have:=hk.1;injection e;omega)⟩) _ _ h
theorem Ov.put {b i c0:Nat} {W:World} {x:Tr} {c v:Value} (h:Ov b W x c) (hb:c0≤b):Ov b (W.setCell ⟨c0,i,none⟩ v) x c:=TP.keep (fun k hk=>⟨⟨hk.1,by have:=hk.2;simpa [World.setCell] using this⟩,Below.heap_setCell _ _ _ _ (show k ≠ c0 by have:=hk.1;omega)⟩) _ _ h
theorem OvS.put {b i c0:Nat} {W:World} {x:TrS} {c:List Value} {v:Value} (h:OvS b W x c) (hb:c0≤b):OvS b (W.setCell ⟨c0,i,none⟩ v) x c:=TS.keep (fun k hk=>⟨⟨hk.1,by have:=hk.2;simpa [World.setCell] using this⟩,Below.heap_setCell _ _ _ _ (show k ≠ c0 by have:=hk.1;omega)⟩) _ _ h
theorem Ov.fin {b:Nat} {w W:World} {x:Tr} {c:Value} (h:Ov b W x c) (hb:w.heap.size≤b) (xs:List Value):TP (setAll W w.heap.size 0 xs) (Y7 w (setAll W w.heap.size 0 xs)) x c:=TP.keep (fun k hk=>⟨⟨by have:=hk.1;omega,by rw [Vz];exact hk.2⟩,Xk (by have:=hk.1;omega) _ _ _⟩) _ _ h
theorem OvS.fin {b:Nat} {w W:World} {x:TrS} {c:List Value} (h:OvS b W x c) (hb:w.heap.size≤b) (xs:List Value):TS (setAll W w.heap.size 0 xs) (Y7 w (setAll W w.heap.size 0 xs)) x c:=TS.keep (fun k hk=>⟨⟨by have:=hk.1;omega,by rw [Vz];exact hk.2⟩,Xk (by have:=hk.1;omega) _ _ _⟩) _ _ h
theorem S1.fin {w:World} {r:Nat} {W:World} {ys:List Value} {t:TypeId} {b:Nat} {o1:Obj} {ts:List Tok} {d:Nat} (h:S1 w r W (.cells ys.toArray t (0,0)) b o1 ts d) (xs:List Value) (hl:ys.length=xs.length) :
  (setAll W w.heap.size 0 xs).heap[w.heap.size]? = some (.cells xs.toArray t (0,0))∧Rd (setAll W w.heap.size 0 xs) r ts d∧Z0 r w (setAll W w.heap.size 0 xs):=
 ⟨Yu hl h.res,h.rd.setAll h.hr _ _ _,Z0.setAll (Nat.le_refl _) _ _ _ h.mv⟩
theorem S0.fin {w:World} {r:Nat} {W:World} {ys:List Value} {t:TypeId} {ts:List Tok} {d:Nat} (h:S0 w r W (.cells ys.toArray t (0,0)) ts d) (xs:List Value) (hl:ys.length=xs.length) :
  (setAll W w.heap.size 0 xs).heap[w.heap.size]? = some (.cells xs.toArray t (0,0))∧Rd (setAll W w.heap.size 0 xs) r ts d∧Z0 r w (setAll W w.heap.size 0 xs):=
 ⟨Yu hl h.res,h.rd.setAll h.hr _ _ _,Z0.setAll (Nat.le_refl _) _ _ _ h.mv⟩
theorem Y6 {R:Ending→World→Prop} {fn:Func} {a:Act} {W:World} {cs:List Value} {ty:TypeId} {p b:Nat} {ds:TypeDesc} (hf:fn.results=#[.cell p ty]) (h2:a.tmps.getD p undef=.pointer (some ⟨b,0,none⟩)) (hd:a.defers=[])
  (hc:W.heap[b]? = some (.cells cs.toArray ty (0,0))) (hu:Tryz.prog.underlying ty=some ds) (hs:∃ fs,ds=.struct fs) (hi:(Tryz.prog.info? ty).map (·.size)=some cs.length) (hR:R (.returned (.agg cs.toArray)) W):bodyPost Tryz.prog fn R .ret a W:=by
 obtain ⟨fs,rfl⟩:=hs;have hl:(loadVar ty ⟨b,0,none⟩).run Tryz.prog W=.ok (.agg cs.toArray) W:=run_loadVar_row W b ty ty cs.toArray (0,0) _ hc hu rfl (by rw [hi];simp);refine bodyPost_ret ?_ hd hR;have h2':a.tmps[p]?.getD undef=.pointer (some ⟨b,0,none⟩):=by rw [← h2];simp
 simp [results,hf,h2',asAddr,hl]
theorem Zh {w:World} {b:Nat} {z0 z1 z2 z3:Value} {t:TypeId} (h:w.heap[b]? = some (.cells #[z0,z1,z2,z3] t (0,0))):w.cell? ⟨b,0,none⟩=some z0∧w.cell? ⟨b,1,none⟩=some z1∧w.cell? ⟨b,2,none⟩=some z2∧w.cell? ⟨b,3,none⟩=some z3∧∀ i,w.frozen? ⟨b,i,none⟩=false:=by
 refine ⟨?_,?_,?_,?_,fun i=>?_⟩
 all_goals first|(simp only [World.cell?,h];rfl)|simp [World.frozen?,h]
theorem X9 {w:World} {b:Nat} {z0 z1 z2 z3 z4 z5 z6 z7 z8 z9:Value} {t:TypeId} (h:w.heap[b]? = some (.cells #[z0,z1,z2,z3,z4,z5,z6,z7,z8,z9] t (0,0))):w.cell? ⟨b,0,none⟩=some z0∧w.cell? ⟨b,1,none⟩=some z1∧w.cell? ⟨b,2,none⟩=some z2∧w.cell? ⟨b,3,none⟩=some z3∧w.cell? ⟨b,4,none⟩=some z4∧w.cell? ⟨b,5,none⟩=some z5∧w.cell? ⟨b,6,none⟩=some z6∧w.cell? ⟨b,7,none⟩=some z7∧w.cell? ⟨b,8,none⟩=some z8∧w.cell? ⟨b,9,none⟩=some z9∧∀ i,w.frozen? ⟨b,i,none⟩=false:=by
 refine ⟨?_,?_,?_,?_,?_,?_,?_,?_,?_,?_,fun i=>?_⟩
 all_goals first|(simp only [World.cell?,h];rfl)|simp [World.frozen?,h]
theorem ptc {w:World} {b:Nat} {z0 z1:Value} {t:TypeId} (h:w.heap[b]? = some (.cells #[z0,z1] t (0,0))):w.cell? ⟨b,0,none⟩=some z0∧w.cell? ⟨b,1,none⟩=some z1∧∀ i,w.frozen? ⟨b,i,none⟩=false:=by
 refine ⟨?_,?_,fun i=>?_⟩
 all_goals first|(simp only [World.cell?,h];rfl)|simp [World.frozen?,h]
theorem Yhf {w:World} {P:Nat→Prop} {a:VT} {v:Value} (h:N9 M9 w P a v):∃ (i0:Int) (i1:Int) (s2:ByteArray) (A3:Option Addr) (n3 c3:Nat) (A4:Option Addr) (n4 c4:Nat),v=.agg #[.int .i64 i0,.int .i64 i1,.string s2,.slice A3 n3 c3,.slice A4 n4 c4]∧TS w P (M9 a) [.int .i64 i0,.int .i64 i1,.string s2,.slice A3 n3 c3,.slice A4 n4 c4]:=by
 obtain ⟨cs,rfl,h⟩:=h;have h0:=h;obtain ⟨k,n,s,l,m⟩:=a;rw [M9] at h0;simp only [TS,TP] at h0;obtain ⟨c0,_,rfl,⟨rfl,_⟩,c1,_,rfl,⟨rfl,_⟩,c2,_,rfl,⟨rfl,_⟩,c3,_,rfl,⟨A3,k3,rfl,_,_⟩,c4,_,rfl,⟨A4,k4,rfl,_,_⟩,rfl⟩:=h0;exact ⟨_,_,_,_,_,_,_,_,_,rfl,h⟩
theorem Zv0 {w:World} {P:Nat→Prop} {a:ByteArray × VT} {v:Value} (h:N9 (fun p=>Gj p.1 p.2) w P a v):∃ (s0:ByteArray) (i1:Int) (i2:Int) (s3:ByteArray) (A4:Option Addr) (n4 c4:Nat) (A5:Option Addr) (n5 c5:Nat),v=.agg #[.string s0,.int .i64 i1,.int .i64 i2,.string s3,.slice A4 n4 c4,.slice A5 n5 c5]∧TS w P ((fun p=>Gj p.1 p.2) a) [.string s0,.int .i64 i1,.int .i64 i2,.string s3,.slice A4 n4 c4,.slice A5 n5 c5]:=by
 obtain ⟨cs,rfl,h⟩:=h;have h0:=h;obtain ⟨nm,k,n,s,l,m⟩:=a;simp only [Gj,M9,TS,TP] at h0;obtain ⟨c0,_,rfl,⟨rfl,_⟩,c1,_,rfl,⟨rfl,_⟩,c2,_,rfl,⟨rfl,_⟩,c3,_,rfl,⟨rfl,_⟩,c4,_,rfl,⟨A4,k4,rfl,_,_⟩,c5,_,rfl,⟨A5,k5,rfl,_,_⟩,rfl⟩:=h0;exact ⟨_,_,_,_,_,_,_,_,_,_,rfl,h⟩
theorem Zxu {w:World} {P:Nat→Prop} {a:Cb} {v:Value} (h:N9 Zk w P a v):∃ (s0:ByteArray) (s1:ByteArray) (i2:Int) (i3:Int) (b4:Bool) (i5:Int) (i6:Int) (s7:ByteArray) (A8:Option Addr) (n8 c8:Nat) (A9:Option Addr) (n9 c9:Nat),v=.agg #[.string s0,.string s1,.int .i64 i2,.int .i64 i3,.bool b4,.int .i64 i5,.int .i64 i6,.string s7,.slice A8 n8 c8,.slice A9 n9 c9]∧TS w P (Zk a) [.string s0,.string s1,.int .i64 i2,.int .i64 i3,.bool b4,.int .i64 i5,.int .i64 i6,.string s7,.slice A8 n8 c8,.slice A9 n9 c9]:=by
 obtain ⟨cs,rfl,h⟩:=h;have h0:=h;obtain ⟨n,tn,tl,tm,has,k,nn,s,l,m⟩:=a;unfold Zk at h0;rw [M9] at h0;simp only [TS,TP] at h0;obtain ⟨c0,_,rfl,⟨rfl,_⟩,c1,_,rfl,⟨rfl,_⟩,c2,_,rfl,⟨rfl,_⟩,c3,_,rfl,⟨rfl,_⟩,c4,_,rfl,⟨rfl,_⟩,c5,_,rfl,⟨rfl,_⟩,c6,_,rfl,⟨rfl,_⟩,c7,_,rfl,⟨rfl,_⟩,c8,_,rfl,⟨A8,k8,rfl,_,_⟩,c9,_,rfl,⟨A9,k9,rfl,_,_⟩,rfl⟩:=h0;exact ⟨_,_,_,_,_,_,_,_,_,_,_,_,_,_,rfl,h⟩
theorem Yh8 (fx:Bool) (d:Nat) (ts:List Tok) (r:Nat) (w:World) (hG:Yn ts) (hd:d≤16) (hR:Rd w r ts d) (hK:KRd r w):Calls Tryz.prog 117 #[.pointer (some ⟨r,0,none⟩),.bool fx] w (Ca r d w (N9 M9) (Im fx d ts)):=by
 refine (Yf0 (2*ts.length+1) fx d ts r w (Nat.le_refl _) hG.1 hd hR hK).mono ?_;intro e w' h;unfold Im
 cases hv:F3 (2*ts.length+1) fx d ts with
 | error x=>rw [hv] at h;exact h
 | ok p =>
   obtain ⟨v,ts'⟩:=p;rw [hv] at h;obtain ⟨⟨d0,d1,d2,d3,d4,rfl,hvp⟩,h1,_,h3⟩:=h;exact ⟨⟨_,rfl,[d0,d1,d2,d3,d4],rfl,Ydj _ _ _ _ _ _ hvp⟩,h1,h3⟩
theorem Ygj (fx:Bool) (d:Nat) (ts:List Tok) (r:Nat) (w:World) (hG:Yn ts) (hd:d≤16) (hR:Rd w r ts d) (hK:KRd r w):Calls Tryz.prog 145 #[.pointer (some ⟨r,0,none⟩),.bool fx] w (Ca r d w (N9 (fun p=>Gj p.1 p.2)) (Co fx d ts)):=by
 refine (Zve (2*ts.length+1) fx d ts r w (Nat.le_refl _) hG.1 hd hR hK).mono ?_;intro e w' h;unfold Co
 cases hv:C9 (2*ts.length+1) fx d ts with
 | error x=>rw [hv] at h;exact h
 | ok p =>
   obtain ⟨⟨nm,v⟩,ts'⟩:=p;rw [hv] at h;obtain ⟨⟨d0,d1,d2,d3,d4,rfl,hs,hvp⟩,h1,_,h3⟩:=h;exact ⟨⟨_,rfl,[.string nm,d0,d1,d2,d3,d4],rfl,TS.str hs (Ydj _ _ _ _ _ _ hvp)⟩,h1,h3⟩
theorem Yg5 (ts:List Tok) (hb:atB 1 oB ts=true):Yoj 0 ts:=by
 intro r d w h;have R0:=Hd ((h.below (blw w (.cells #[.string ⟨#[]⟩,.int .i64 0,.int .i64 0] 70))).below (blw _ (.cells #[.string ⟨#[]⟩,.int .i64 0,.int .i64 0] 70)));have K0:=Hd (Zqr.start w r (.string ⟨#[]⟩) (.int .i64 0) (.int .i64 0) (.string ⟨#[]⟩) (.int .i64 0) (.int .i64 0) h.lt);have HA:=Hd (Ir r ts d 1 oB _ R0.out);rw [hb] at HA;rw [Es hb];clear h hb
 show Calls _ _ #[_,.int .i64 4] _ fun e w'=>e=Yb 4∧Z0 r w w'
 go_enter Tryz.func114,Tryz.ntmps114
 go_wp2_with fail
 refine HA.out.mono ?_;rintro e w1 ⟨rfl,rfl⟩;go_wp2_with fail
 exact ⟨rfl,rfl,K0.out.2.2.1⟩
theorem Yfs (left:Nat) (hleft:left+1≤4) (ih:∀ ts,Vq ts→Yoj left ts) (ts:List Tok) (hN:Vq ts) (hb:atB 1 oB ts=true):Yoj (left+1) ts:=by
 intro r d w h;have K0:=Hd (Zqr.start w r (.string ⟨#[]⟩) (.int .i64 0) (.int .i64 0) (.string ⟨#[]⟩) (.int .i64 0) (.int .i64 0) h.lt);have R0:=Hd ((h.below (blw w (.cells #[.string ⟨#[]⟩,.int .i64 0,.int .i64 0] 70))).below (blw _ (.cells #[.string ⟨#[]⟩,.int .i64 0,.int .i64 0] 70)));have HA:=Hd (Ir r ts d 1 oB _ R0.out);have HK:=Hd (Yg r ts d 1 oB _ R0.out);have hst:Xs 1 oB ts=ts.tail:=by unfold Xs;rw [hb];rfl
 rw [hb] at HA HK;rw [hst] at HK;obtain ⟨L,hL⟩:∃ L:Int,((4 - (left+1):Nat):Int)=L:=⟨_,rfl⟩;have hL4:(L == 4)=false:=by simp;omega
 have hL1:L+1=((4 - left:Nat):Int):=by omega
 have hLb:0≤L∧L≤4:=by omega
 rw [hL];have HI:=fun wx (hx:Rd wx r ts.tail d)=>Hd (ih ts.tail hN.tail r d wx hx);rw [← hL1] at HI;have hright:=Em left ts.tail hN.tail;clear hst h hN hL hL1 ih
 cases hi:Zj left ts.tail with
 | error x =>
   rw [hi] at HI;have hg:Zj (left+1) ts=.error x:=by rw [Uy hb,hi]
   rw [hg];clear hg hb
   show Calls _ _ _ _ fun e w'=>e=Yb x∧Z0 r w w';clear hi hright
   go_enter Tryz.func114,Tryz.ntmps114
   go_wp2_with fail
   refine HA.out.mono ?_;rintro e w1 ⟨rfl,rfl⟩;go_wp2_with fail
   refine HK.out.mono ?_;rintro e w2 ⟨rfl,r2,m2⟩;have K2:=Hd (K0.out.next m2);have R2:=Hd r2;clear r2 m2;go_wp2_with fail
   refine (HI _ R2.out).out.mono ?_;rintro e w3 ⟨rfl,m3⟩;exact ⟨rfl,rfl,K2.out.2.2.1.trans m3⟩
 | ok p =>
   obtain ⟨⟨n,l,m⟩,ts1⟩:=p;rw [hi] at HI;have RNi:=hright n l m ts1 hi;have HLI:=fun wx=>Hd (by have h:=Ygp n (l:Int) (m:Int) wx RNi.2.1;rw [Yn2 RNi (by omega),Yq6] at h;exact h);have RN:=Hd (show Da n (l+1) (2*m) (left+1) ts1.tail from ⟨RNi.1,RNi.2.1,by have:=RNi.2.2.1;omega,by have:=RNi.2.2.2.1;rw [Nat.pow_succ];omega,RNi.2.2.2.2.tail⟩);clear hright RNi
   cases hc:atB 1 cB ts1 with
   | false =>
     have HN:=fun wx (hx:Rd wx r ts1 d)=>Hd (by have:=Xa r ts1 d 1 cB wx hx;rw [hc] at this;simp only [Bool.false_eq_true,if_false] at this;exact this);have hg:Zj (left+1) ts=.error 2:=by rw [Uy hb,hi];show (if atB 1 cB ts1=true then _ else _)=_;rw [hc];rfl
     rw [hg];clear hc hg hb hi
     show Calls _ _ _ _ fun e w'=>e=Yb 2∧Z0 r w w'
     go_enter Tryz.func114,Tryz.ntmps114
     go_wp2_with fail
     refine HA.out.mono ?_;rintro e w1 ⟨rfl,rfl⟩;go_wp2_with fail
     refine HK.out.mono ?_;rintro e w2 ⟨rfl,r2,m2⟩;have K2:=Hd (K0.out.next m2);have R2:=Hd r2;clear r2 m2;go_wp2_with fail
     refine (HI _ R2.out).out.mono ?_;rintro e w3 ⟨rfl,r3,m3⟩;have K3:=Hd (K2.out.next m3);have R3:=Hd r3;clear r3 m3 HI;go_wp2_with fail
     refine (HLI _).out.mono ?_;rintro e w4 ⟨rfl,hb4⟩;have K4:=Hd (K3.out.next (Z0.of_below hb4));have R4:=Hd (R3.out.below hb4);clear hb4 HLI K0 K2 K3 R0 R2 R3;obtain ⟨k0,k1,k2,z0,z1,z2⟩:=Zy K4.out.2.1;go_wp2_with fail
     clear k0 k1 k2 z0 z1 z2;have K5:=Hd (K4.out.set2 (.string n) (.int .i64 ((l+1:Nat):Int)) (.int .i64 ((2*m:Nat):Int)));have R5:=Hd (((R4.out.set (b:=w.heap.size+1) (i:=0) (v:=.string n) (Nat.lt_succ_of_lt K4.out.2.2.2)).set (b:=w.heap.size+1) (i:=1) (v:=.int .i64 ((l+1:Nat):Int)) (Nat.lt_succ_of_lt K4.out.2.2.2)).set (b:=w.heap.size+1) (i:=2) (v:=.int .i64 ((2*m:Nat):Int)) (Nat.lt_succ_of_lt K4.out.2.2.2));refine (HN _ R5.out).out.mono ?_;rintro e w6 ⟨rfl,m6⟩;exact ⟨rfl,rfl,K5.out.2.2.1.trans m6⟩
   | true =>
     have HN:=fun wx (hx:Rd wx r ts1 d)=>Hd (by have:=Xa r ts1 d 1 cB wx hx;rw [hc] at this;simp only [if_true] at this;exact this);have hg:Zj (left+1) ts=.ok (Ui n (l+1) (2*m) ts1.tail):=by rw [Uy hb,hi];show (if atB 1 cB ts1=true then _ else _)=_;rw [hc];rfl
     rw [hg];clear hc hg hb hi;obtain ⟨RES,hRES⟩:∃ RES,Ui n (l+1) (2*m) ts1.tail=RES:=⟨_,rfl⟩;rw [hRES];have hR:=Hd hRES.symm;clear hRES;obtain ⟨l1,hl1⟩:∃ l1,l+1=l1:=⟨_,rfl⟩;obtain ⟨m1,hm1⟩:∃ m1,2*m=m1:=⟨_,rfl⟩;rw [hl1,hm1] at RN hR HLI;clear hl1 hm1
     go_enter Tryz.func114,Tryz.ntmps114
     go_wp2_with fail
     refine HA.out.mono ?_;rintro e w1 ⟨rfl,rfl⟩;go_wp2_with fail
     refine HK.out.mono ?_;rintro e w2 ⟨rfl,r2,m2⟩;have K2:=Hd (K0.out.next m2);have R2:=Hd r2;clear r2 m2;go_wp2_with fail
     refine (HI _ R2.out).out.mono ?_;rintro e w3 ⟨rfl,r3,m3⟩;have K3:=Hd (K2.out.next m3);have R3:=Hd r3;clear r3 m3 HI;go_wp2_with fail
     refine (HLI _).out.mono ?_;rintro e w4 ⟨rfl,hb4⟩;have K4:=Hd (K3.out.next (Z0.of_below hb4));have R4:=Hd (R3.out.below hb4);clear hb4 HLI K0 K2 K3 R0 R2 R3;obtain ⟨k0,k1,k2,z0,z1,z2⟩:=Zy K4.out.2.1;go_wp2_with fail
     clear k0 k1 k2 z0 z1 z2;have K5:=Hd (K4.out.set2 (.string n) (.int .i64 (l1:Int)) (.int .i64 (m1:Int)));have R5:=Hd (((R4.out.set (b:=w.heap.size+1) (i:=0) (v:=.string n) (Nat.lt_succ_of_lt K4.out.2.2.2)).set (b:=w.heap.size+1) (i:=1) (v:=.int .i64 (l1:Int)) (Nat.lt_succ_of_lt K4.out.2.2.2)).set (b:=w.heap.size+1) (i:=2) (v:=.int .i64 (m1:Int)) (Nat.lt_succ_of_lt K4.out.2.2.2));refine (HN _ R5.out).out.mono ?_;rintro e w6 ⟨rfl,r6,m6⟩;have K6:=Hd (K5.out.next m6);have R6:=Hd r6;clear r6 m6 HN K5 R5 K4 R4 HA HK;go_wp2_with fail
     generalize ts1.tail=ts2 at *;have HS:=Hd (Yg r ts2 d 1 bB _ R6.out);have hbb:Hid (Ui n l1 m1 ts2=if atB 1 bB ts2=true then ((n,l1,m1 ||| 1),ts2.tail) else ((n,l1,m1),ts2)):=Hd rfl;have hst:Hid (Xs 1 bB ts2=if atB 1 bB ts2=true then ts2.tail else ts2):=Hd rfl;generalize atB 1 bB ts2=q at *;obtain ⟨k0,k1,k2,z0,z1,z2⟩:=Zy K6.out.2.1;obtain ⟨j0,j1,j2,y0,y1,y2⟩:=Zy K6.out.1;clear k0 k1 k2 z0 z1 z2 j0 j1 j2 y0 y1 y2;go_wp2_with fail
     cases q with
     | false =>
       refine HS.out.mono ?_;rintro e wa ⟨rfl,ra,ma⟩;rw [hst.out] at ra;have KA:=Hd (K6.out.next ma);have RA:=Hd ra;obtain ⟨k0,k1,k2,z0,z1,z2⟩:=Zy KA.out.2.1;obtain ⟨j0,j1,j2,y0,y1,y2⟩:=Zy KA.out.1;clear ra ma HS;go_wp2_with fail
       have KB:=Hd (KA.out.set1 (.string n) (.int .i64 (l1:Nat)) (.int .i64 (m1:Nat)));refine Zqk rfl rfl rfl KB.out.1 ?_;rw [hR.out,hbb.out];exact ⟨rfl,((RA.out.set (Nat.lt_of_lt_of_le KA.out.2.2.2 (Nat.le_refl _))).set (Nat.lt_of_lt_of_le KA.out.2.2.2 (Nat.le_refl _))).set (Nat.lt_of_lt_of_le KA.out.2.2.2 (Nat.le_refl _)),KB.out.2.2.1⟩
     | true =>
       refine HS.out.mono ?_;rintro e wa ⟨rfl,ra,ma⟩;rw [hst.out] at ra;have KA:=Hd (K6.out.next ma);have RA:=Hd ra;have HM:=fun wx=>Hd (by have h:=Zxr n (l1:Nat) (m1:Nat) wx RN.out.2.1;rw [Yb6 RN.out hleft] at h;exact h);obtain ⟨k0,k1,k2,z0,z1,z2⟩:=Zy KA.out.2.1;clear ra ma HS;go_wp2_with fail
       refine (HM _).out.mono ?_;rintro e wb ⟨rfl,hb⟩;have KB:=Hd (KA.out.next (Z0.of_below hb));have RB:=Hd (RA.out.below hb);clear hb k0 k1 k2 z0 z1 z2 HM;obtain ⟨k0,k1,k2,z0,z1,z2⟩:=Zy KB.out.2.1;obtain ⟨j0,j1,j2,y0,y1,y2⟩:=Zy KB.out.1;go_wp2_with fail
       have KC:=Hd ((KB.out.set2 (.string n) (.int .i64 (l1:Nat)) (.int .i64 ((m1 ||| 1:Nat):Int))).set1 (.string n) (.int .i64 (l1:Nat)) (.int .i64 ((m1 ||| 1:Nat):Int)));refine Zqk rfl rfl rfl KC.out.1 ?_;rw [hR.out,hbb.out];have hlt:=KB.out.2.2.2;exact ⟨rfl,(((((RB.out.set (by omega)).set (by omega)).set (by omega)).set (by omega)).set (by omega)).set (by omega),KC.out.2.2.1⟩
theorem Ymb (left:Nat) (hleft:left≤4):∀ ts,Vq ts→Yoj left ts:=by
 induction left with
 | zero =>
   intro ts hN
   cases hb:atB 1 oB ts with
   | true=>exact Yg5 ts hb
   | false=>exact Zkl 0 hleft ts hN hb
 | succ left ih =>
   intro ts hN
   cases hb:atB 1 oB ts with
   | true=>exact Yfs left hleft (ih (by omega)) ts hN hb
   | false=>exact Zkl (left+1) hleft ts hN hb
theorem N6 (v:Value) (w:World):(Instr.typeAssert (.iface 54 v) 20 54 true).run Tryz.prog w=.ok (.tuple #[v,.bool true]) w:=by kernel_rfl
def pu:Int→List UInt8→Option Int
 | acc,[]=>some acc
 | acc,b :: t=>if Gv b then pu (acc*16+Ss b) t else none
def puS (l:List UInt8):Value:=match pu 0 l with|some v=>.tuple #[.int .u64 v,.nilIface]|none=>.tuple #[.int .u64 0,.iface 193 (.int .i64 2)]
def Td (b:UInt8):Int:=bits .or .u8 (b.toNat:Int) 32
theorem Yca:∀ b:UInt8,((48:Int)≤(b.toNat:Int)∧(b.toNat:Int)≤57)→Gv b=true∧Ss b=(b.toNat:Int) - 48:=Y8 (by decide +kernel)
theorem Ylu:∀ b:UInt8,¬ ((48:Int)≤(b.toNat:Int)∧(b.toNat:Int)≤57)→(97:Int)≤Td b→Td b≤102→Gv b=true∧Ss b=Td b - 87:=Y8 (by decide +kernel)
theorem Yml:∀ b:UInt8,¬ ((48:Int)≤(b.toNat:Int)∧(b.toNat:Int)≤57)→¬ ((97:Int)≤Td b∧Td b≤102)→Gv b=false:=Y8 (by decide +kernel)
theorem Yew (b:UInt8) (w:World):Calls Tryz.prog 179 #[.int .u8 (b.toNat:Int)] w fun e w'=>e=.returned (.int .u8 (Td b))∧w=w':=by
 go_enter Tryz.func179,Tryz.ntmps179
 go_wp2
 go_ret
 exact ⟨rfl,rfl⟩
def lim:Nat→Int|0=>1|1=>16|2=>256|3=>4096|_=>65536
theorem Ypp {k:Nat} {a:Int} (hk:k < 4) (h:a < lim k):a≤4095:=by
 rcases (by omega:k=0∨k=1∨k=2∨k=3) with rfl|rfl|rfl|rfl<;>simp only [lim] at h<;>omega
theorem Zky {k:Nat} {a d:Int} (hk:k < 4) (h:a < lim k) (hd:d≤15):a*16+d < lim (k+1):=by
 rcases (by omega:k=0∨k=1∨k=2∨k=3) with rfl|rfl|rfl|rfl<;>simp only [lim] at h ⊢<;>omega
theorem Zjy (w:World) (e:TypeId) (s:ByteArray):Below w.heap.size w (Lib.bytesWorld w e s):=by
 unfold Lib.bytesWorld;exact Lib.below_freeze ((Below.drew (Below.refl _ w)).alloc (Nat.le_refl _) _) (p:=⟨w.heap.size,_,none⟩) (Nat.le_refl _) 1
theorem Zxq (t:ByteArray) (h4:t.size=4) (w:World):Calls Tryz.prog 172 #[.string t,.int .i64 16,.int .i64 16] w fun e w'=>e=.returned (puS t.data.toList)∧Below w.heap.size w w':=by
 have hemp:=Eg (s:=t) (by omega);have hcv:=Lib.run_convert_string_bytes (P:=Tryz.prog) w 9 128 5 t (u:=.string) Tryz.underlying9 Tryz.underlying128 Tryz.underlying5;have hB:∀ j,j < t.size→(Lib.bytesWorld w 5 t).cell? ⟨w.heap.size,j,none⟩=some (.int .u8 (t.data.toList.getD j 0).toNat):=fun j hj=>Lib.bytesWorld_cell w 5 t j hj;have hbl:=Zjy w 5 t;obtain ⟨W1,hW1⟩:∃ W1,W1=Lib.bytesWorld w 5 t:=⟨_,rfl⟩;rw [← hW1] at hcv hB hbl;have HBL:=Hd hbl;clear hW1 hbl;have hLn:=Z7 t;obtain ⟨bs,hL⟩:∃ bs,bs=t.data.toList:=⟨_,rfl⟩;rw [← hL] at hB hLn ⊢;clear hL;obtain ⟨V,hV⟩:∃ V,puS bs=V:=⟨_,rfl⟩;have HV:=Hd hV;rw [hV];clear hV
 have hmv:IntKind.u64.wrap (IntKind.u64.wrap 65536 - 1)=65535:=by
  rw [IntKind.wrap_u64,IntKind.wrap_u64]
  decide
 go_enter Tryz.func172,Tryz.ntmps172
 go_wp2
 go_loop [12,13,101] (fun vu vn vi=>∃ (k:Nat) (a:Int),vu=.bool false∧vn=.int .u64 a∧vi=.int .i64 k∧k≤t.size∧Hid (0≤a∧a < lim k∧pu 0 bs=pu a (bs.drop k)))
  (fun _ _ vi=>t.size - (intOf vi).toNat)
 case atStart=>exact ⟨0,0,rfl,rfl,rfl,by omega,Hd ⟨by omega,by simp [lim],rfl⟩⟩
 case round =>
  obtain ⟨k,a,rfl,rfl,rfl,hk,hh⟩:=hrel;obtain ⟨a0,hal,hdec⟩:=hh.out;clear hh
  by_cases hkn:k < t.size
  · have hk4:k < 4:=by omega
    have a1:=Ypp hk4 hal;have hc:=hB k hkn;have hdrop:bs.drop k=bs[k]'(by omega) :: bs.drop (k+1):=List.drop_eq_getElem_cons (by omega);have hget:bs.getD k 0=bs[k]'(by omega):=by simp [List.getD,List.getElem?_eq_getElem (show k < bs.length by omega)]
    rw [hdrop] at hdec;rw [hget] at hc;generalize bs[k]'(by omega)=c at hc hdec;have hc256:c.toNat < 256:=c.toNat_lt;have HLO:=Hd (Yew c W1);clear hB hdrop hget;have h95:((c.toNat:Int) == 95)=true∨((c.toNat:Int) == 95)=false:=by cases ((c.toNat:Int) == 95)<;>simp
    by_cases hd0:(48:Int)≤(c.toNat:Int)∧(c.toNat:Int)≤57
    · obtain ⟨hx,hv⟩:=Yca c hd0
      obtain ⟨d0,d1⟩:=hd0;have HN:Hid (0≤a*16+((c.toNat:Int) - 48)∧a*16+((c.toNat:Int) - 48) < lim (k+1)∧pu 0 bs=pu (a*16+((c.toNat:Int) - 48)) (bs.drop (k+1))):=Hd ⟨by omega,Zky hk4 hal (by omega),hdec.trans (by rw [pu,hx,hv];rfl)⟩;clear hdec hx hv hal h95;go_wp2
      refine ⟨⟨k+1,a*16+((c.toNat:Int) - 48),rfl,(by first|rfl|(congr 1;omega)),(by first|rfl|(congr 1;omega)),by omega,HN⟩,by simp [intOf];omega⟩
    · have hdd:(c.toNat:Int) < 48∨(57 < (c.toNat:Int)):=by omega
      by_cases hl:(97:Int)≤Td c∧Td c≤102
      · obtain ⟨hx,hv⟩:=Ylu c hd0 hl.1 hl.2
        obtain ⟨l0,l1⟩:=hl;have l2:Td c≤122:=by omega
        have l3:Td c - 87 < 16:=by omega
        have HN:Hid (0≤a*16+(Td c - 87)∧a*16+(Td c - 87) < lim (k+1)∧pu 0 bs=pu (a*16+(Td c - 87)) (bs.drop (k+1))):=Hd ⟨by omega,Zky hk4 hal (by omega),hdec.trans (by rw [pu,hx,hv];rfl)⟩;generalize Td c=v at *;clear hdec hx hv hal hd0;rcases h95 with h95|h95
        focus
          skip
        rotate_left
        focus
          skip
        all_goals
          rcases hdd with hdd|hdd
          · have hdd3 : ¬ (48:Int)≤(c.toNat:Int):=by omega
            go_wp2_with fail
            refine HLO.out.mono ?_;rintro e w1 ⟨rfl,rfl⟩;go_wp2_with fail
            refine HLO.out.mono ?_;rintro e w1 ⟨rfl,rfl⟩;go_wp2_with fail
            refine HLO.out.mono ?_;rintro e w1 ⟨rfl,rfl⟩;go_wp2_with fail
            refine ⟨⟨k+1,a*16+(v - 87),rfl,(by first|rfl|(congr 1;omega)),(by first|rfl|(congr 1;omega)),by omega,HN⟩,by simp [intOf];omega⟩
          · have hdd1:(48:Int)≤(c.toNat:Int):=by omega
            have hdd2 : ¬ (c.toNat:Int)≤57:=by omega
            go_wp2_with fail
            refine HLO.out.mono ?_;rintro e w1 ⟨rfl,rfl⟩;go_wp2_with fail
            refine HLO.out.mono ?_;rintro e w1 ⟨rfl,rfl⟩;go_wp2_with fail
            refine HLO.out.mono ?_;rintro e w1 ⟨rfl,rfl⟩;go_wp2_with fail
            refine ⟨⟨k+1,a*16+(v - 87),rfl,(by first|rfl|(congr 1;omega)),(by first|rfl|(congr 1;omega)),by omega,HN⟩,by simp [intOf];omega⟩
      · have hx:=Yml c hd0 hl
        have hF:Hid (V=.tuple #[.int .u64 0,.iface 193 (.int .i64 2)]):=Hd (by rw [← HV.out,puS,show pu 0 bs=none from hdec.trans (by simp [pu,hx])]);have hlow:=bits_lo_u8 .or (c.toNat:Int) 32;have hhi:=bits_hi_u8 .or (c.toNat:Int) 32
        change 0≤Td c at hlow
        change Td c≤255 at hhi
        generalize Td c=v at *;clear hdec hx hal hd0 HV;rcases (by omega:v < 97∨(97≤v∧122 < v)∨(97≤v∧v≤122∧103≤v)) with l0|⟨l0,l1⟩|⟨l0,l1,l2⟩
        · clear hl
          have l9 : ¬ 97≤v:=by omega
          rcases h95 with h95|h95
          focus
            skip
          rotate_left
          focus
            skip
          all_goals
            rcases hdd with hdd|hdd
            · have hdd3 : ¬ (48:Int)≤(c.toNat:Int):=by omega
              go_wp2_with fail
              refine HLO.out.mono ?_;rintro e w1 ⟨rfl,rfl⟩;go_wp2_with fail
              go_ret2
              exact ⟨by rw [hF.out];rfl,HBL.out⟩
            · have hdd1:(48:Int)≤(c.toNat:Int):=by omega
              have hdd2 : ¬ (c.toNat:Int)≤57:=by omega
              go_wp2_with fail
              refine HLO.out.mono ?_;rintro e w1 ⟨rfl,rfl⟩;go_wp2_with fail
              go_ret2
              exact ⟨by rw [hF.out];rfl,HBL.out⟩
        · clear hl
          have l9 : ¬ v≤122:=by omega
          rcases h95 with h95|h95
          focus
            skip
          rotate_left
          focus
            skip
          all_goals
            rcases hdd with hdd|hdd
            · have hdd3 : ¬ (48:Int)≤(c.toNat:Int):=by omega
              go_wp2_with fail
              refine HLO.out.mono ?_;rintro e w1 ⟨rfl,rfl⟩;go_wp2_with fail
              refine HLO.out.mono ?_;rintro e w1 ⟨rfl,rfl⟩;go_wp2_with fail
              go_ret2
              exact ⟨by rw [hF.out];rfl,HBL.out⟩
            · have hdd1:(48:Int)≤(c.toNat:Int):=by omega
              have hdd2 : ¬ (c.toNat:Int)≤57:=by omega
              go_wp2_with fail
              refine HLO.out.mono ?_;rintro e w1 ⟨rfl,rfl⟩;go_wp2_with fail
              refine HLO.out.mono ?_;rintro e w1 ⟨rfl,rfl⟩;go_wp2_with fail
              go_ret2
              exact ⟨by rw [hF.out];rfl,HBL.out⟩
        · clear hl
          have l9 : ¬ v - 87 < 16:=by omega
          have l8:16≤v - 87:=by omega
          rcases h95 with h95|h95
          focus
            skip
          rotate_left
          focus
            skip
          all_goals
            rcases hdd with hdd|hdd
            · have hdd3 : ¬ (48:Int)≤(c.toNat:Int):=by omega
              go_wp2_with fail
              refine HLO.out.mono ?_;rintro e w1 ⟨rfl,rfl⟩;go_wp2_with fail
              refine HLO.out.mono ?_;rintro e w1 ⟨rfl,rfl⟩;go_wp2_with fail
              refine HLO.out.mono ?_;rintro e w1 ⟨rfl,rfl⟩;go_wp2_with fail
              go_ret2
              exact ⟨by rw [hF.out];rfl,HBL.out⟩
            · have hdd1:(48:Int)≤(c.toNat:Int):=by omega
              have hdd2 : ¬ (c.toNat:Int)≤57:=by omega
              go_wp2_with fail
              refine HLO.out.mono ?_;rintro e w1 ⟨rfl,rfl⟩;go_wp2_with fail
              refine HLO.out.mono ?_;rintro e w1 ⟨rfl,rfl⟩;go_wp2_with fail
              refine HLO.out.mono ?_;rintro e w1 ⟨rfl,rfl⟩;go_wp2_with fail
              go_ret2
              exact ⟨by rw [hF.out];rfl,HBL.out⟩
  · have hkk:k=t.size:=by omega
    have hF:Hid (pu 0 bs=some a):=Hd (hdec.trans (by rw [List.drop_eq_nil_of_le (by omega)];rfl));subst hkk;clear hdec hal;go_wp2
    go_ret2
    exact ⟨by rw [← HV.out,puS,hF.out];rfl,HBL.out⟩
def Ue (w:World):Prop:=Wp w∧∃ te pe,w.cell? ⟨2,0,none⟩=some (.iface te pe)
theorem Yal {w:World} {b o:Nat} {v:Value} (h:w.cell? ⟨b,o,none⟩=some v):b < w.heap.size:=by
 rcases Nat.lt_or_ge b w.heap.size with h'|h'
 · exact h'
 · simp [World.cell?,Array.getElem?_eq_none h'] at h
theorem Ue.below {w w':World} (h:Ue w) (hb:Below w.heap.size w w'):Ue w':=by
 obtain ⟨ht,te,pe,hc⟩:=h;exact ⟨ht.below hb ht.lt,te,pe,(hb.cell (p:=⟨2,0,none⟩) (Yal hc)).trans hc⟩
theorem Ue.alloc {w:World} (h:Ue w) (o:Obj):Ue (w.alloc o):=h.below ((Below.refl _ _).alloc (Nat.le_refl _) o)
theorem Yc9 (t:ByteArray) (h4:t.size=4) (v:Int) (hv:pu 0 t.data.toList=some v) (w:World):Calls Tryz.prog 156 #[.string t,.int .i64 16,.int .i64 16] w fun e w'=>e=.returned (.tuple #[.int .u64 v,.nilIface])∧Below w.heap.size w w':=by
 have hP:=Zxq t h4 w;rw [puS,hv] at hP;have HP:=Hd hP;clear hP
 go_enter Tryz.func156,Tryz.ntmps156
 go_wp2_with fail
 refine HP.out.mono ?_;rintro e w1 ⟨rfl,hb⟩;have HB:=Hd hb;clear hb;go_wp2_with fail
 go_ret2
 exact ⟨rfl,HB.out⟩
theorem Yjw (t:ByteArray) (h4:t.size=4) (hv:pu 0 t.data.toList=none) (w:World) (h3:Ue w):Calls Tryz.prog 156 #[.string t,.int .i64 16,.int .i64 16] w fun e w'=>∃ N,e=.returned (.tuple #[.int .u64 0,.iface 195 (.pointer (some ⟨N,0,none⟩))])∧Below w.heap.size w w':=by
 have hP:=Zxq t h4 w;rw [puS,hv] at hP;have HP:=Hd hP;have H3:=Hd h3;clear hP h3
 go_enter Tryz.func156,Tryz.ntmps156
 go_wp2_with fail
 refine HP.out.mono ?_;rintro e w1 ⟨rfl,hb⟩;obtain ⟨te,pe,hc⟩:=(H3.out.below hb).2;have HE:=Hd (Ng ⟨#[80,97,114,115,101,85,105,110,116]⟩ t 16 16 (.iface te pe) w1 (by omega) hc (.inr ⟨te,pe,rfl⟩));have HB:=Hd hb;clear hb hc;go_wp2_with fail
 refine HE.out.mono ?_;rintro e w2 ⟨N,rfl,hb2⟩;have HB2:=Hd hb2;clear hb2;go_wp2_with fail
 go_ret2
 exact ⟨N,rfl,HB.out.trans (HB2.out.mono HB.out.size)⟩
def De (l:List UInt8):Value:=match Zo l with|some u=>.tuple #[.int .i64 u,.bool true]|none=>.tuple #[.int .i64 0,.bool false]
theorem Ynk (a b c d:UInt8) (r:List UInt8):Zo (92 :: 117 :: a :: b :: c :: d :: r)=pu 0 [a,b,c,d]:=by
 simp only [Zo,pu]
 cases Gv a<;>cases Gv b<;>cases Gv c<;>cases Gv d<;>simp [Ymd]
theorem Yhp {l:List UInt8} (h:pre [92,117] l=false):Zo l=none:=by
 cases hu:Zo l with
 | none=>rfl
 | some u =>
   obtain ⟨t,rfl⟩:=C5 hu
   cases h
theorem Ya3 {l:List UInt8} (h:l.length < 6):Zo l=none:=by
 cases hu:Zo l with
 | none=>rfl
 | some u=>have:=V4 hu;omega
theorem Ye8 {l:List UInt8} (h:pre [92,117] l=true) (hl:6≤l.length):Zo l=pu 0 ((l.drop 2).take 4):=by
 match l,hl with
 | x :: y :: a :: b :: c :: d :: r,_ =>
   unfold pre at h;simp only [List.isPrefixOf_cons_cons,Bool.and_eq_true,beq_iff_eq] at h;obtain ⟨rfl,rfl,_⟩:=h;rw [Ynk]
   rfl
theorem Yog (s q:ByteArray) (w:World) (h:pre q.data.toList s.data.toList=false):Calls Tryz.prog 155 #[.string s,.string q] w fun e w'=>e=.returned (.tuple #[.string s,.bool false])∧w=w':=
 (Cg s q w).mono fun _ _ ⟨he,hw⟩=>⟨by
  have h':Lib.hasPrefix s.data.toList q.data.toList=false:=h;rw [he,Lib.trimPrefix,h',if_neg (by simp),Gc rfl],hw.symm⟩
theorem Ymo (s q:ByteArray) (w:World) (h:pre q.data.toList s.data.toList=true):Calls Tryz.prog 155 #[.string s,.string q] w fun e w'=>e=.returned (.tuple #[.string (s.extract q.size s.size),.bool true])∧w=w':=
 (Cg s q w).mono fun _ _ ⟨he,hw⟩=>⟨by
  have h':Lib.hasPrefix s.data.toList q.data.toList=true:=h;rw [he,Lib.trimPrefix,h',if_pos rfl,Z7,Gc (Xm s q.size)],hw.symm⟩
theorem Zxd (s:ByteArray) (w:World) (hs:s.size≤9000) (h3:Ue w):Calls Tryz.prog 136 #[.string s] w fun e w'=>e=.returned (De s.data.toList)∧Below w.heap.size w w':=by
 have hl:=Z7 s
 cases hp:pre [92,117] s.data.toList
 · have HC:=Hd (Yog s ⟨#[92,117]⟩ w hp)
   have hr:Hid (De s.data.toList=.tuple #[.int .i64 0,.bool false]):=Hd (by rw [De,Yhp hp]);clear hp hl h3
   go_enter Tryz.func136,Tryz.ntmps136
   go_wp2_with fail
   refine HC.out.mono ?_;rintro e w1 ⟨rfl,rfl⟩;go_wp2_with fail
   go_ret2
   exact ⟨by rw [hr.out];rfl,Below.refl _ _⟩
 · have hC:=Ymo s ⟨#[92,117]⟩ w hp
   rw [show (⟨#[92,117]⟩:ByteArray).size=2 from rfl] at hC;have h2:2≤s.size:=by have:=V9 hp;rw [hl] at this;exact this
   obtain ⟨t,ht⟩:∃ t,s.extract 2 s.size=t:=⟨_,rfl⟩;have htd:t.data.toList=s.data.toList.drop 2:=by rw [← ht,Xm]
   have hts:t.size=s.size - 2:=by rw [← ht,Ur]
   rw [ht] at hC;have HC:=Hd hC;clear hC ht
   by_cases h6:s.size < 6
   · have hr:Hid (De s.data.toList=.tuple #[.int .i64 0,.bool false]):=Hd (by rw [De,Ya3 (by omega)])
     have e4:(t.size:Int) < 4:=by omega
     clear hp hl h3 htd
     go_enter Tryz.func136,Tryz.ntmps136
     go_wp2_with fail
     refine HC.out.mono ?_;rintro e w1 ⟨rfl,rfl⟩;go_wp2_with fail
     go_ret2
     exact ⟨by rw [hr.out];rfl,Below.refl _ _⟩
   · have e4 : ¬ (t.size:Int) < 4:=by omega
     have e5:4≤t.size:=by omega
     have hu:=Ye8 hp (by omega);rw [← htd,← Cv t 4] at hu;have h4s:(t.extract 0 4).size=4:=by simp;omega
     cases hv:pu 0 (t.extract 0 4).data.toList with
     | none =>
       have hr:Hid (De s.data.toList=.tuple #[.int .i64 0,.bool false]):=Hd (by rw [De,hu,hv]);have HP:=Hd (Yjw (t.extract 0 4) h4s hv w h3);clear hp hl h3 htd hu hv h4s
       go_enter Tryz.func136,Tryz.ntmps136
       go_wp2_with fail
       refine HC.out.mono ?_;rintro e w1 ⟨rfl,rfl⟩;go_wp2_with fail
       refine HP.out.mono ?_;rintro e w1 ⟨N,rfl,hb⟩;have HB:=Hd hb;clear hb;go_wp2_with fail
       go_quiet (fail)
       go_wp2_with fail
       go_ret2
       exact ⟨by rw [hr.out];rfl,Lx HB.out _⟩
     | some v =>
       have hr:Hid (De s.data.toList=.tuple #[.int .i64 v,.bool true]):=Hd (by rw [De,hu,hv]);have HP:=Hd (Yc9 (t.extract 0 4) h4s v hv w);have hvb:=Sq (hu.trans hv);obtain ⟨v0,v1⟩:=hvb;clear hp hl h3 htd hu hv h4s
       go_enter Tryz.func136,Tryz.ntmps136
       go_wp2_with fail
       refine HC.out.mono ?_;rintro e w1 ⟨rfl,rfl⟩;go_wp2_with fail
       refine HP.out.mono ?_;rintro e w1 ⟨rfl,hb⟩;have HB:=Hd hb;clear hb;go_wp2_with fail
       go_quiet (fail)
       go_wp2_with fail
       go_ret2
       exact ⟨by rw [hr.out];rfl,Lx HB.out _⟩
theorem Ylk (s:ByteArray) (k:Nat) (w:World) (hs:s.size≤9000) (h3:Ue w):Calls Tryz.prog 136 #[.string (s.extract k s.size)] w fun e w'=>e=.returned (De (s.data.toList.drop k))∧Below w.heap.size w w':=by
 have h:=Zxd (s.extract k s.size) w (by rw [Ur];omega) h3
 rwa [Xm] at h
end Go.Proofs.YtkmloefbkgcbkaaGreatDoor
