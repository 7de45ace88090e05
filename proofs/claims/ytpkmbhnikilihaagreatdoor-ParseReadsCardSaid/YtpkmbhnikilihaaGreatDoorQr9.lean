/- seineref6.SameOp over equal trees. -/
import Derived.Test.YtpkmbhnikilihaaGreatDoorQr8
import Derived.Defers
import Derived.Recover
import Derived.Laws.EntriesVeiled
import Derived.Lib.ConvBytes
import Derived.Laws.Strings3
import Derived.Laws.Closers25
import Derived.Laws.Closers25b
import Derived.BigCall
import Derived.BigGuard
import Derived.Lib.Walk
set_option maxRecDepth 100000
set_option maxHeartbeats 4000000
namespace Go.Proofs.YtpkmbhnikilihaaGreatDoor
open Go.RowKit
def BK5 (w:World) (x y:Nat) (c0 c1 c2 c3 c4 d0 d1 d2 d3 d4:Value) (W:World):Prop:=
 (W.cell? ⟨x,0,none⟩=some c0∧W.cell? ⟨x,1,none⟩=some c1∧W.cell? ⟨x,2,none⟩=some c2∧W.cell? ⟨x,3,none⟩=some c3∧W.cell? ⟨x,4,none⟩=some c4∧W.cell? ⟨y,0,none⟩=some d0∧W.cell? ⟨y,1,none⟩=some d1∧W.cell? ⟨y,2,none⟩=some d2∧W.cell? ⟨y,3,none⟩=some d3∧W.cell? ⟨y,4,none⟩=some d4)∧x < W.heap.size∧y < W.heap.size∧Below w.heap.size w W
theorem BK5.cells {w W:World} {x y:Nat} {c0 c1 c2 c3 c4 d0 d1 d2 d3 d4:Value} (h:BK5 w x y c0 c1 c2 c3 c4 d0 d1 d2 d3 d4 W):W.cell? ⟨x,0,none⟩=some c0∧W.cell? ⟨x,1,none⟩=some c1∧W.cell? ⟨x,2,none⟩=some c2∧W.cell? ⟨x,3,none⟩=some c3∧W.cell? ⟨x,4,none⟩=some c4∧W.cell? ⟨y,0,none⟩=some d0∧W.cell? ⟨y,1,none⟩=some d1∧W.cell? ⟨y,2,none⟩=some d2∧W.cell? ⟨y,3,none⟩=some d3∧W.cell? ⟨y,4,none⟩=some d4:=h.1
theorem BK5.below {w W:World} {x y:Nat} {c0 c1 c2 c3 c4 d0 d1 d2 d3 d4:Value} (h:BK5 w x y c0 c1 c2 c3 c4 d0 d1 d2 d3 d4 W):Below w.heap.size w W:=h.2.2.2
theorem BK5.next {w W W':World} {x y:Nat} {c0 c1 c2 c3 c4 d0 d1 d2 d3 d4:Value} (h:BK5 w x y c0 c1 c2 c3 c4 d0 d1 d2 d3 d4 W) (hb:Below W.heap.size W W'):BK5 w x y c0 c1 c2 c3 c4 d0 d1 d2 d3 d4 W':=by
 obtain ⟨⟨g0,g1,g2,g3,g4,f0,f1,f2,f3,f4⟩,hx,hy,hB⟩:=h
 exact ⟨⟨(hb.cell (p:=⟨x,_,none⟩) hx).trans g0,(hb.cell (p:=⟨x,_,none⟩) hx).trans g1,(hb.cell (p:=⟨x,_,none⟩) hx).trans g2,(hb.cell (p:=⟨x,_,none⟩) hx).trans g3,(hb.cell (p:=⟨x,_,none⟩) hx).trans g4,(hb.cell (p:=⟨y,_,none⟩) hy).trans f0,(hb.cell (p:=⟨y,_,none⟩) hy).trans f1,(hb.cell (p:=⟨y,_,none⟩) hy).trans f2,(hb.cell (p:=⟨y,_,none⟩) hy).trans f3,(hb.cell (p:=⟨y,_,none⟩) hy).trans f4⟩,Nat.lt_of_lt_of_le hx hb.size,Nat.lt_of_lt_of_le hy hb.size,hB.trans (hb.mono hB.size)⟩
theorem BK5.start (w:World) (c0 c1 c2 c3 c4 d0 d1 d2 d3 d4:Value) (t:TypeId):BK5 w (w.heap.size) (w.heap.size+1) c0 c1 c2 c3 c4 d0 d1 d2 d3 d4 ((w.alloc (.cells #[c0,c1,c2,c3,c4] t)).alloc (.cells #[d0,d1,d2,d3,d4] t)):=by
 have k0:((w.alloc (.cells #[c0,c1,c2,c3,c4] t)).alloc (.cells #[d0,d1,d2,d3,d4] t)).heap[w.heap.size]? = some (.cells #[c0,c1,c2,c3,c4] t):=by
  show ((w.alloc (.cells #[c0,c1,c2,c3,c4] t)).alloc (.cells #[d0,d1,d2,d3,d4] t)).heap[w.heap.size]? = _
  rw [Below.heap_alloc _ _ _ (by simp)]
  show (w.heap.push _)[w.heap.size]? = _;simp
 have k1:((w.alloc (.cells #[c0,c1,c2,c3,c4] t)).alloc (.cells #[d0,d1,d2,d3,d4] t)).heap[w.heap.size+1]? = some (.cells #[d0,d1,d2,d3,d4] t):=by
  show ((w.heap.push _).push _)[w.heap.size+1]? = _
  rw [Array.getElem?_push,if_pos (by simp)]
 refine ⟨⟨?_,?_,?_,?_,?_,?_,?_,?_,?_,?_⟩,?_,?_,((Below.refl _ _).alloc (Nat.le_refl _) _).alloc (by simp) _⟩
 all_goals first|(simp only [World.cell?];first|(rw [k0];rfl)|(rw [k1];rfl))|(show _ < ((w.heap.push _).push _).size;simp;done)|(show _ < ((w.heap.push _).push _).size;simp;omega)
def Zxn (w:World) (x y:Nat) (c0 c1 c2 c3 c4 c5 c6 c7 c8 c9 d0 d1 d2 d3 d4 d5 d6 d7 d8 d9:Value) (W:World):Prop:=
 (W.cell? ⟨x,0,none⟩=some c0∧W.cell? ⟨x,1,none⟩=some c1∧W.cell? ⟨x,2,none⟩=some c2∧W.cell? ⟨x,3,none⟩=some c3∧W.cell? ⟨x,4,none⟩=some c4∧W.cell? ⟨x,5,none⟩=some c5∧W.cell? ⟨x,6,none⟩=some c6∧W.cell? ⟨x,7,none⟩=some c7∧W.cell? ⟨x,8,none⟩=some c8∧W.cell? ⟨x,9,none⟩=some c9∧W.cell? ⟨y,0,none⟩=some d0∧W.cell? ⟨y,1,none⟩=some d1∧W.cell? ⟨y,2,none⟩=some d2∧W.cell? ⟨y,3,none⟩=some d3∧W.cell? ⟨y,4,none⟩=some d4∧W.cell? ⟨y,5,none⟩=some d5∧W.cell? ⟨y,6,none⟩=some d6∧W.cell? ⟨y,7,none⟩=some d7∧W.cell? ⟨y,8,none⟩=some d8∧W.cell? ⟨y,9,none⟩=some d9)∧x < W.heap.size∧y < W.heap.size∧Below w.heap.size w W
theorem Zxn.cells {w W:World} {x y:Nat} {c0 c1 c2 c3 c4 c5 c6 c7 c8 c9 d0 d1 d2 d3 d4 d5 d6 d7 d8 d9:Value} (h:Zxn w x y c0 c1 c2 c3 c4 c5 c6 c7 c8 c9 d0 d1 d2 d3 d4 d5 d6 d7 d8 d9 W):W.cell? ⟨x,0,none⟩=some c0∧W.cell? ⟨x,1,none⟩=some c1∧W.cell? ⟨x,2,none⟩=some c2∧W.cell? ⟨x,3,none⟩=some c3∧W.cell? ⟨x,4,none⟩=some c4∧W.cell? ⟨x,5,none⟩=some c5∧W.cell? ⟨x,6,none⟩=some c6∧W.cell? ⟨x,7,none⟩=some c7∧W.cell? ⟨x,8,none⟩=some c8∧W.cell? ⟨x,9,none⟩=some c9∧W.cell? ⟨y,0,none⟩=some d0∧W.cell? ⟨y,1,none⟩=some d1∧W.cell? ⟨y,2,none⟩=some d2∧W.cell? ⟨y,3,none⟩=some d3∧W.cell? ⟨y,4,none⟩=some d4∧W.cell? ⟨y,5,none⟩=some d5∧W.cell? ⟨y,6,none⟩=some d6∧W.cell? ⟨y,7,none⟩=some d7∧W.cell? ⟨y,8,none⟩=some d8∧W.cell? ⟨y,9,none⟩=some d9:=h.1
theorem Zxn.below {w W:World} {x y:Nat} {c0 c1 c2 c3 c4 c5 c6 c7 c8 c9 d0 d1 d2 d3 d4 d5 d6 d7 d8 d9:Value} (h:Zxn w x y c0 c1 c2 c3 c4 c5 c6 c7 c8 c9 d0 d1 d2 d3 d4 d5 d6 d7 d8 d9 W):Below w.heap.size w W:=h.2.2.2
theorem Zxn.next {w W W':World} {x y:Nat} {c0 c1 c2 c3 c4 c5 c6 c7 c8 c9 d0 d1 d2 d3 d4 d5 d6 d7 d8 d9:Value} (h:Zxn w x y c0 c1 c2 c3 c4 c5 c6 c7 c8 c9 d0 d1 d2 d3 d4 d5 d6 d7 d8 d9 W) (hb:Below W.heap.size W W'):Zxn w x y c0 c1 c2 c3 c4 c5 c6 c7 c8 c9 d0 d1 d2 d3 d4 d5 d6 d7 d8 d9 W':=by
 obtain ⟨⟨g0,g1,g2,g3,g4,g5,g6,g7,g8,g9,f0,f1,f2,f3,f4,f5,f6,f7,f8,f9⟩,hx,hy,hB⟩:=h
 exact ⟨⟨(hb.cell (p:=⟨x,_,none⟩) hx).trans g0,(hb.cell (p:=⟨x,_,none⟩) hx).trans g1,(hb.cell (p:=⟨x,_,none⟩) hx).trans g2,(hb.cell (p:=⟨x,_,none⟩) hx).trans g3,(hb.cell (p:=⟨x,_,none⟩) hx).trans g4,(hb.cell (p:=⟨x,_,none⟩) hx).trans g5,(hb.cell (p:=⟨x,_,none⟩) hx).trans g6,(hb.cell (p:=⟨x,_,none⟩) hx).trans g7,(hb.cell (p:=⟨x,_,none⟩) hx).trans g8,(hb.cell (p:=⟨x,_,none⟩) hx).trans g9,(hb.cell (p:=⟨y,_,none⟩) hy).trans f0,(hb.cell (p:=⟨y,_,none⟩) hy).trans f1,(hb.cell (p:=⟨y,_,none⟩) hy).trans f2,(hb.cell (p:=⟨y,_,none⟩) hy).trans f3,(hb.cell (p:=⟨y,_,none⟩) hy).trans f4,(hb.cell (p:=⟨y,_,none⟩) hy).trans f5,(hb.cell (p:=⟨y,_,none⟩) hy).trans f6,(hb.cell (p:=⟨y,_,none⟩) hy).trans f7,(hb.cell (p:=⟨y,_,none⟩) hy).trans f8,(hb.cell (p:=⟨y,_,none⟩) hy).trans f9⟩,Nat.lt_of_lt_of_le hx hb.size,Nat.lt_of_lt_of_le hy hb.size,hB.trans (hb.mono hB.size)⟩
theorem Zxn.start (w:World) (c0 c1 c2 c3 c4 c5 c6 c7 c8 c9 d0 d1 d2 d3 d4 d5 d6 d7 d8 d9:Value) (t:TypeId):Zxn w (w.heap.size) (w.heap.size+1) c0 c1 c2 c3 c4 c5 c6 c7 c8 c9 d0 d1 d2 d3 d4 d5 d6 d7 d8 d9 ((w.alloc (.cells #[c0,c1,c2,c3,c4,c5,c6,c7,c8,c9] t)).alloc (.cells #[d0,d1,d2,d3,d4,d5,d6,d7,d8,d9] t)).drew:=by
 have k0:((w.alloc (.cells #[c0,c1,c2,c3,c4,c5,c6,c7,c8,c9] t)).alloc (.cells #[d0,d1,d2,d3,d4,d5,d6,d7,d8,d9] t)).drew.heap[w.heap.size]? = some (.cells #[c0,c1,c2,c3,c4,c5,c6,c7,c8,c9] t):=by
  show ((w.alloc (.cells #[c0,c1,c2,c3,c4,c5,c6,c7,c8,c9] t)).alloc (.cells #[d0,d1,d2,d3,d4,d5,d6,d7,d8,d9] t)).heap[w.heap.size]? = _
  rw [Below.heap_alloc _ _ _ (by simp)]
  show (w.heap.push _)[w.heap.size]? = _;simp
 have k1:((w.alloc (.cells #[c0,c1,c2,c3,c4,c5,c6,c7,c8,c9] t)).alloc (.cells #[d0,d1,d2,d3,d4,d5,d6,d7,d8,d9] t)).drew.heap[w.heap.size+1]? = some (.cells #[d0,d1,d2,d3,d4,d5,d6,d7,d8,d9] t):=by
  show ((w.heap.push _).push _)[w.heap.size+1]? = _
  rw [Array.getElem?_push,if_pos (by simp)]
 refine ⟨⟨?_,?_,?_,?_,?_,?_,?_,?_,?_,?_,?_,?_,?_,?_,?_,?_,?_,?_,?_,?_⟩,?_,?_,Below.drew (((Below.refl _ _).alloc (Nat.le_refl _) _).alloc (by simp) _)⟩
 all_goals first|(simp only [World.cell?];first|(rw [k0];rfl)|(rw [k1];rfl))|(show _ < ((w.heap.push _).push _).size;simp;done)|(show _ < ((w.heap.push _).push _).size;simp;omega)
theorem Zxn.start2 (w:World) (c0 c1 c2 c3 c4 c5 c6 c7 c8 c9 d0 d1 d2 d3 d4 d5 d6 d7 d8 d9:Value) (t:TypeId):Zxn w (w.heap.size+1) (w.heap.size) c0 c1 c2 c3 c4 c5 c6 c7 c8 c9 d0 d1 d2 d3 d4 d5 d6 d7 d8 d9 ((w.alloc (.cells #[d0,d1,d2,d3,d4,d5,d6,d7,d8,d9] t)).alloc (.cells #[c0,c1,c2,c3,c4,c5,c6,c7,c8,c9] t)).drew:=by
 have k0:((w.alloc (.cells #[d0,d1,d2,d3,d4,d5,d6,d7,d8,d9] t)).alloc (.cells #[c0,c1,c2,c3,c4,c5,c6,c7,c8,c9] t)).drew.heap[w.heap.size]? = some (.cells #[d0,d1,d2,d3,d4,d5,d6,d7,d8,d9] t):=by
  show ((w.alloc (.cells #[d0,d1,d2,d3,d4,d5,d6,d7,d8,d9] t)).alloc (.cells #[c0,c1,c2,c3,c4,c5,c6,c7,c8,c9] t)).heap[w.heap.size]? = _
  rw [Below.heap_alloc _ _ _ (by simp)]
  show (w.heap.push _)[w.heap.size]? = _;simp
 have k1:((w.alloc (.cells #[d0,d1,d2,d3,d4,d5,d6,d7,d8,d9] t)).alloc (.cells #[c0,c1,c2,c3,c4,c5,c6,c7,c8,c9] t)).drew.heap[w.heap.size+1]? = some (.cells #[c0,c1,c2,c3,c4,c5,c6,c7,c8,c9] t):=by
  show ((w.heap.push _).push _)[w.heap.size+1]? = _
  rw [Array.getElem?_push,if_pos (by simp)]
 refine ⟨⟨?_,?_,?_,?_,?_,?_,?_,?_,?_,?_,?_,?_,?_,?_,?_,?_,?_,?_,?_,?_⟩,?_,?_,Below.drew (((Below.refl _ _).alloc (Nat.le_refl _) _).alloc (by simp) _)⟩
 all_goals first|(simp only [World.cell?];first|(rw [k0];rfl)|(rw [k1];rfl))|(show _ < ((w.heap.push _).push _).size;simp;done)|(show _ < ((w.heap.push _).push _).size;simp;omega)
theorem Zvx (x:Mw):(Y7 x).len=10:=by
 unfold Y7
 simp only [TrS.len,Cz]
theorem Yi3 {w:World} {B:Nat} {l:List Mw} {A:Option Addr} {q:Nat} {nm tn:ByteArray} {tl tm:Nat} {has:Bool} {vk vn:Int} {vs:ByteArray} {vl:VL} {vm:VM} (h:Xp w (fun b=>b < B) (Z5 Y7 l) A) (hx:l[q]? = some ⟨nm,tn,tl,tm,has,.mk vk vn vs vl vm⟩) :
  ∃ b p Al kl Am km,A=some ⟨b,p,none⟩∧b < B∧(w.cell? ⟨b,p+q*10,none⟩=some (.string nm)∧w.cell? ⟨b,p+q*10+1,none⟩=some (.string tn)∧w.cell? ⟨b,p+q*10+2,none⟩=some (.int .i64 (tl:Int))∧w.cell? ⟨b,p+q*10+3,none⟩=some (.int .i64 (tm:Int))∧w.cell? ⟨b,p+q*10+4,none⟩=some (.bool has)∧w.cell? ⟨b,p+q*10+5,none⟩=some (.int .i64 vk)∧w.cell? ⟨b,p+q*10+6,none⟩=some (.int .i64 vn)∧w.cell? ⟨b,p+q*10+7,none⟩=some (.string vs)∧w.cell? ⟨b,p+q*10+8,none⟩=some (.slice Al vl.len kl)∧w.cell? ⟨b,p+q*10+9,none⟩=some (.slice Am vm.len km))∧VAt w B (.mk vk vn vs vl vm) (.int .i64 vk) (.int .i64 vn) (.string vs) (.slice Al vl.len kl) (.slice Am vm.len km):=by
 obtain ⟨b,p,cs,e,hb,hc,h1⟩:=Wh 10 Zvx h hx
 simp only [Y7,TS,TP] at h1
 obtain ⟨c0,_,rfl,⟨rfl,_⟩,c1,_,rfl,⟨rfl,_⟩,c2,_,rfl,⟨rfl,_⟩,c3,_,rfl,⟨rfl,_⟩,c4,ys,rfl,⟨rfl,_⟩,h2⟩:=h1
 obtain ⟨d0,d1,d2,d3,d4,rfl,hv⟩:=Ykp _ _ h2
 have hv:=VP.at (fun _ h=>h) _ _ _ _ _ _ hv
 have hv0:=hv
 unfold VAt at hv
 obtain ⟨rfl,rfl,rfl,_,⟨Al,kl,rfl,_,_⟩,Am,km,rfl,_,_⟩:=hv
 exact ⟨b,p,Al,kl,Am,km,e,hb,⟨hc 0 _ rfl,hc 1 _ rfl,hc 2 _ rfl,hc 3 _ rfl,hc 4 _ rfl,hc 5 _ rfl,hc 6 _ rfl,hc 7 _ rfl,hc 8 _ rfl,hc 9 _ rfl⟩,hv0⟩
def Zkn (w:World) (B:Nat) (vars:List Mw) (d:List Lk) (s:Vy) (Av Ad As:Option Addr):Prop:=
 vars.length≤9223372036854775807∧Xp w (fun b=>b < B) (Z5 Y7 vars) Av∧In w B d s Ad As
theorem Zkn.below {w w':World} {B:Nat} (hb:Below B w w') {vars:List Mw} {d:List Lk} {s:Vy} {Av Ad As:Option Addr} (h:Zkn w B vars d s Av Ad As):Zkn w' B vars d s Av Ad As:=
 ⟨h.1,Xp.below hb h.2.1,In.below hb h.2.2⟩
theorem Yip (k:Int) (n:ByteArray) (vars:List Mw) (ds:List Lk) (ss:Vy) (Av Av' Ad Ad' As As':Option Addr) (kv kv' kd kd' ks ks':Nat) (w:World) (B:Nat) (hB:B≤w.heap.size) (h1:Zkn w B vars ds ss Av Ad As) (h2:Zkn w B vars ds ss Av' Ad' As') :
  Calls Tryz.prog 45 #[.agg #[.int .i64 k,.string n,.slice Av vars.length kv,.slice Ad ds.length kd,.slice As ss.len ks],.agg #[.int .i64 k,.string n,.slice Av' vars.length kv',.slice Ad' ds.length kd',.slice As' ss.len ks']] w fun e w'=>e=.returned (.bool true)∧Below w.heap.size w w':=by
 have S1:=Hd h1
 have S2:=Hd h2
 have HB0:=Hd hB
 have hvl:=h1.1
 clear h1 h2 hB
 have eK:(k != k)=false:=by simp
 have eN:(n.toList != n.toList)=false:=by simp
 have eV:((vars.length:Int) != (vars.length:Int))=false:=by simp
 go_enter Tryz.func45,Tryz.ntmps45
 have hW0:=Hd (BK5.start w (.int .i64 k) (.string n) (.slice Av vars.length kv) (.slice Ad ds.length kd) (.slice As ss.len ks) (.int .i64 k) (.string n) (.slice Av' vars.length kv') (.slice Ad' ds.length kd') (.slice As' ss.len ks') 68)
 go_wp2_with fail
 have hB1:=hW0.out.below
 refine (Do ds Ad Ad' kd kd' _ B (Nat.le_trans HB0.out hB1.size) S1.out.2.2.1 (Zkn.below (hB1.mono HB0.out) S1.out).2.2.2.2.1 (Zkn.below (hB1.mono HB0.out) S2.out).2.2.2.2.1).mono ?_
 rintro e w3 ⟨rfl,hb3⟩
 have hW3:=Hd (BK5.next hW0.out hb3)
 clear hW0 hB1 hb3
 have hc0:=hW3.out.cells
 obtain ⟨g0,g1,g2,g3,g4,f0,f1,f2,f3,f4⟩:=hc0
 have hB1:=hW3.out.below
 go_wp2_with fail
 refine (Zx3 ss As As' ks ks' _ B (Nat.le_trans HB0.out hB1.size) S1.out.2.2.2.1 (Zkn.below (hB1.mono HB0.out) S1.out).2.2.2.2.2 (Zkn.below (hB1.mono HB0.out) S2.out).2.2.2.2.2).mono ?_
 rintro e w4 ⟨rfl,hb4⟩
 have hW4:=Hd (BK5.next hW3.out hb4)
 clear g0 g1 g2 g3 g4 f0 f1 f2 f3 f4 hW3 hB1 hb4
 go_wp2_with fail
 go_loopg [5] vars.length (fun g i wx=>∃ q:Nat,q+g=vars.length∧i=.int .i64 q∧BK5 w w.heap.size (w.heap.size+1) (.int .i64 k) (.string n) (.slice Av vars.length kv) (.slice Ad ds.length kd) (.slice As ss.len ks) (.int .i64 k) (.string n) (.slice Av' vars.length kv') (.slice Ad' ds.length kd') (.slice As' ss.len ks') wx)
 case atStart=>exact ⟨0,by omega,rfl,hW4.out⟩
 case round =>
  obtain ⟨q,hq,rfl,hb⟩:=hrel
  have hWW:=Hd hb
  have HBB:=Hd hb.below
  have hx1:w.heap.size < wr.heap.size:=hb.2.1
  have hx2:w.heap.size+1 < wr.heap.size:=hb.2.2.1
  obtain ⟨_,_,h2,_,_,_,_,h2',_,_⟩:=hb.cells
  clear hb hW4
  cases gk with
  | zero =>
    obtain rfl:q=vars.length:=by omega
    go_wp2_with fail
    go_ret
    exact ⟨rfl,HBB.out⟩
  | succ g =>
    have hqn:q < vars.length:=by omega
    have hqn':(q:Int) < (vars.length:Int):=by omega
    obtain ⟨⟨nm,tn,tl,tm,has,⟨vk,vn,vs,vl,vm⟩⟩,hv⟩:∃ x,vars[q]? = some x:=⟨_,List.getElem?_eq_getElem hqn⟩
    obtain ⟨b,o,Al,kl,Am,km,rfl,hblt,⟨g0,g1,g2,g3,g4,g5,g6,g7,g8,g9⟩,V1⟩:=Yi3 (Zkn.below (HBB.out.mono HB0.out) S1.out).2.1 hv
    obtain ⟨b',o',Al',kl',Am',km',rfl,hblt',⟨f0,f1,f2,f3,f4,f5,f6,f7,f8,f9⟩,V2⟩:=Yi3 (Zkn.below (HBB.out.mono HB0.out) S2.out).2.1 hv
    have V1:=Hd V1
    have V2:=Hd V2
    have HBX:=Hd (Nat.le_trans HB0.out HBB.out.size)
    have eM:(nm.toList != nm.toList)=false:=by simp
    have eT:(tn.toList != tn.toList)=false:=by simp
    have eT':(tn.toList == tn.toList)=true:=by simp
    have eH:(has != has)=false:=by simp
    have hw1:b < wr.heap.size:=Nat.lt_of_lt_of_le hblt (Nat.le_trans HB0.out HBB.out.size)
    have hw2:b' < wr.heap.size:=Nat.lt_of_lt_of_le hblt' (Nat.le_trans HB0.out HBB.out.size)
    clear hv hblt hblt'
    go_wp2_with fail
    go_region
    · have hW0:=Hd (Zxn.start wr (.string nm) (.string tn) (.int .i64 (tl:Int)) (.int .i64 (tm:Int)) (.bool has) (.int .i64 vk) (.int .i64 vn) (.string vs) (.slice Al vl.len kl) (.slice Am vm.len km) (.string nm) (.string tn) (.int .i64 (tl:Int)) (.int .i64 (tm:Int)) (.bool has) (.int .i64 vk) (.int .i64 vn) (.string vs) (.slice Al' vl.len kl') (.slice Am' vm.len km') 119)
      generalize ((wr.alloc (.cells #[.string nm,.string tn,.int .i64 (tl:Int),.int .i64 (tm:Int),.bool has,.int .i64 vk,.int .i64 vn,.string vs,.slice Al vl.len kl,.slice Am vm.len km] 119)).alloc (.cells #[.string nm,.string tn,.int .i64 (tl:Int),.int .i64 (tm:Int),.bool has,.int .i64 vk,.int .i64 vn,.string vs,.slice Al' vl.len kl',.slice Am' vm.len km'] 119)).drew=W at hW0 ⊢
      have hc0:=hW0.out.cells
      obtain ⟨g0,g1,g2,g3,g4,g5,g6,g7,g8,g9,f0,f1,f2,f3,f4,f5,f6,f7,f8,f9⟩:=hc0
      have hB1:=hW0.out.below
      have hW5:=Hd (BK5.next hWW.out hB1)
      clear h2 h2'
      go_wp2_with fail
      refine ((Sp _).yes rfl (.int .i64 vk) (.int .i64 vn) (.string vs) (.slice Al vl.len kl) (.slice Am vm.len km) (.int .i64 vk) (.int .i64 vn) (.string vs) (.slice Al' vl.len kl') (.slice Am' vm.len km') _ B (Nat.le_trans HBX.out hB1.size) (VAt.below (hB1.mono HBX.out) _ _ _ _ _ _ V1.out) (VAt.below (hB1.mono HBX.out) _ _ _ _ _ _ V2.out)).mono ?_
      rintro e w2 ⟨rfl,hb2⟩
      have hW6:=Hd (BK5.next hW5.out hb2)
      clear g0 g1 g2 g3 g4 g5 g6 g7 g8 g9 f0 f1 f2 f3 f4 f5 f6 f7 f8 f9 hW0 hB1 hb2 hW5
      go_wp2_with fail
      go_roundg g
      case measure=>omega
      case rel=>exact ⟨q+1,by omega,by go_num,hW6.out⟩
    · have hW0:=Hd (Zxn.start2 wr (.string nm) (.string tn) (.int .i64 (tl:Int)) (.int .i64 (tm:Int)) (.bool has) (.int .i64 vk) (.int .i64 vn) (.string vs) (.slice Al vl.len kl) (.slice Am vm.len km) (.string nm) (.string tn) (.int .i64 (tl:Int)) (.int .i64 (tm:Int)) (.bool has) (.int .i64 vk) (.int .i64 vn) (.string vs) (.slice Al' vl.len kl') (.slice Am' vm.len km') 119)
      generalize ((wr.alloc (.cells #[.string nm,.string tn,.int .i64 (tl:Int),.int .i64 (tm:Int),.bool has,.int .i64 vk,.int .i64 vn,.string vs,.slice Al' vl.len kl',.slice Am' vm.len km'] 119)).alloc (.cells #[.string nm,.string tn,.int .i64 (tl:Int),.int .i64 (tm:Int),.bool has,.int .i64 vk,.int .i64 vn,.string vs,.slice Al vl.len kl,.slice Am vm.len km] 119)).drew=W at hW0 ⊢
      have hc0:=hW0.out.cells
      obtain ⟨g0,g1,g2,g3,g4,g5,g6,g7,g8,g9,f0,f1,f2,f3,f4,f5,f6,f7,f8,f9⟩:=hc0
      have hB1:=hW0.out.below
      have hW5:=Hd (BK5.next hWW.out hB1)
      clear h2 h2'
      go_wp2_with fail
      refine ((Sp _).yes rfl (.int .i64 vk) (.int .i64 vn) (.string vs) (.slice Al vl.len kl) (.slice Am vm.len km) (.int .i64 vk) (.int .i64 vn) (.string vs) (.slice Al' vl.len kl') (.slice Am' vm.len km') _ B (Nat.le_trans HBX.out hB1.size) (VAt.below (hB1.mono HBX.out) _ _ _ _ _ _ V1.out) (VAt.below (hB1.mono HBX.out) _ _ _ _ _ _ V2.out)).mono ?_
      rintro e w2 ⟨rfl,hb2⟩
      have hW6:=Hd (BK5.next hW5.out hb2)
      clear g0 g1 g2 g3 g4 g5 g6 g7 g8 g9 f0 f1 f2 f3 f4 f5 f6 f7 f8 f9 hW0 hB1 hb2 hW5
      go_wp2_with fail
      go_roundg g
      case measure=>omega
      case rel=>exact ⟨q+1,by omega,by go_num,hW6.out⟩
theorem Yge (ts:List Tok) (hb:atB 1 oB ts=true):Ym5 0 ts:=by
 intro r d w h
 have R0:=Hd ((h.below (blw w (.cells #[.string ⟨#[]⟩,.int .i64 0,.int .i64 0] 39))).below (blw _ (.cells #[.string ⟨#[]⟩,.int .i64 0,.int .i64 0] 39)))
 have K0:=Hd (Zq1.start w r (.string ⟨#[]⟩) (.int .i64 0) (.int .i64 0) (.string ⟨#[]⟩) (.int .i64 0) (.int .i64 0) h.lt)
 have HA:=Hd (U6 r ts d 1 oB _ R0.out)
 rw [hb] at HA
 rw [Eq hb]
 clear h hb
 show Calls _ _ #[_,.int .i64 4] _ fun e w'=>e=Y5 4∧Z0 r w w'
 go_enter Tryz.func128,Tryz.ntmps128
 go_wp2_with fail
 refine HA.out.mono ?_
 rintro e w1 ⟨rfl,rfl⟩
 go_wp2_with fail
 exact ⟨rfl,rfl,K0.out.2.2.1⟩
theorem Yf6 (left:Nat) (hleft:left+1≤4) (ih:∀ ts,Ih ts→Ym5 left ts) (ts:List Tok) (hN:Ih ts) (hb:atB 1 oB ts=true):Ym5 (left+1) ts:=by
 intro r d w h
 have K0:=Hd (Zq1.start w r (.string ⟨#[]⟩) (.int .i64 0) (.int .i64 0) (.string ⟨#[]⟩) (.int .i64 0) (.int .i64 0) h.lt)
 have R0:=Hd ((h.below (blw w (.cells #[.string ⟨#[]⟩,.int .i64 0,.int .i64 0] 39))).below (blw _ (.cells #[.string ⟨#[]⟩,.int .i64 0,.int .i64 0] 39)))
 have HA:=Hd (U6 r ts d 1 oB _ R0.out)
 have HK:=Hd (Zv r ts d 1 oB _ R0.out)
 have hst:Vj 1 oB ts=ts.tail:=by unfold Vj;rw [hb];rfl
 rw [hb] at HA HK
 rw [hst] at HK
 obtain ⟨L,hL⟩:∃ L:Int,((4 - (left+1):Nat):Int)=L:=⟨_,rfl⟩
 have hL4:(L == 4)=false:=by simp;omega
 have hL1:L+1=((4 - left:Nat):Int):=by omega
 have hLb:0≤L∧L≤4:=by omega
 rw [hL]
 have HI:=fun wx (hx:Rd wx r ts.tail d)=>Hd (ih ts.tail hN.tail r d wx hx)
 rw [← hL1] at HI
 have hright:=Wu left ts.tail hN.tail
 clear hst h hN hL hL1 ih
 cases hi:Zl left ts.tail with
 | error x =>
   rw [hi] at HI
   have hg:Zl (left+1) ts=.error x:=by rw [Uw hb,hi]
   rw [hg]
   clear hg hb
   show Calls _ _ _ _ fun e w'=>e=Y5 x∧Z0 r w w'
   clear hi hright
   go_enter Tryz.func128,Tryz.ntmps128
   go_wp2_with fail
   refine HA.out.mono ?_
   rintro e w1 ⟨rfl,rfl⟩
   go_wp2_with fail
   refine HK.out.mono ?_
   rintro e w2 ⟨rfl,r2,m2⟩
   have K2:=Hd (K0.out.next m2)
   have R2:=Hd r2
   clear r2 m2
   go_wp2_with fail
   refine (HI _ R2.out).out.mono ?_
   rintro e w3 ⟨rfl,m3⟩
   exact ⟨rfl,rfl,K2.out.2.2.1.trans m3⟩
 | ok p =>
   obtain ⟨⟨n,l,m⟩,ts1⟩:=p
   rw [hi] at HI
   have RNi:=hright n l m ts1 hi
   have HLI:=fun wx=>Hd (by have h:=Yfb n (l:Int) (m:Int) wx RNi.2.1;rw [Yil RNi (by omega),Yna] at h;exact h)
   have RN:=Hd (show Ox n (l+1) (2*m) (left+1) ts1.tail from ⟨RNi.1,RNi.2.1,by have:=RNi.2.2.1;omega,by have:=RNi.2.2.2.1;rw [Nat.pow_succ];omega,RNi.2.2.2.2.tail⟩)
   clear hright RNi
   cases hc:atB 1 cB ts1 with
   | false =>
     have HN:=fun wx (hx:Rd wx r ts1 d)=>Hd (by have:=Iq r ts1 d 1 cB wx hx;rw [hc] at this;simp only [Bool.false_eq_true,if_false] at this;exact this)
     have hg:Zl (left+1) ts=.error 2:=by rw [Uw hb,hi];show (if atB 1 cB ts1=true then _ else _)=_;rw [hc];rfl
     rw [hg]
     clear hc hg hb hi
     show Calls _ _ _ _ fun e w'=>e=Y5 2∧Z0 r w w'
     go_enter Tryz.func128,Tryz.ntmps128
     go_wp2_with fail
     refine HA.out.mono ?_
     rintro e w1 ⟨rfl,rfl⟩
     go_wp2_with fail
     refine HK.out.mono ?_
     rintro e w2 ⟨rfl,r2,m2⟩
     have K2:=Hd (K0.out.next m2)
     have R2:=Hd r2
     clear r2 m2
     go_wp2_with fail
     refine (HI _ R2.out).out.mono ?_
     rintro e w3 ⟨rfl,r3,m3⟩
     have K3:=Hd (K2.out.next m3)
     have R3:=Hd r3
     clear r3 m3 HI
     go_wp2_with fail
     refine (HLI _).out.mono ?_
     rintro e w4 ⟨rfl,hb4⟩
     have K4:=Hd (K3.out.next (Z0.of_below hb4))
     have R4:=Hd (R3.out.below hb4)
     clear hb4 HLI K0 K2 K3 R0 R2 R3
     obtain ⟨k0,k1,k2,z0,z1,z2⟩:=Zn K4.out.2.1
     go_wp2_with fail
     clear k0 k1 k2 z0 z1 z2
     have K5:=Hd (K4.out.set2 (.string n) (.int .i64 ((l+1:Nat):Int)) (.int .i64 ((2*m:Nat):Int)))
     have R5:=Hd (((R4.out.set (b:=w.heap.size+1) (i:=0) (v:=.string n) (Nat.lt_succ_of_lt K4.out.2.2.2)).set (b:=w.heap.size+1) (i:=1) (v:=.int .i64 ((l+1:Nat):Int)) (Nat.lt_succ_of_lt K4.out.2.2.2)).set (b:=w.heap.size+1) (i:=2) (v:=.int .i64 ((2*m:Nat):Int)) (Nat.lt_succ_of_lt K4.out.2.2.2))
     refine (HN _ R5.out).out.mono ?_
     rintro e w6 ⟨rfl,m6⟩
     exact ⟨rfl,rfl,K5.out.2.2.1.trans m6⟩
   | true =>
     have HN:=fun wx (hx:Rd wx r ts1 d)=>Hd (by have:=Iq r ts1 d 1 cB wx hx;rw [hc] at this;simp only [if_true] at this;exact this)
     have hg:Zl (left+1) ts=.ok (Uh n (l+1) (2*m) ts1.tail):=by rw [Uw hb,hi];show (if atB 1 cB ts1=true then _ else _)=_;rw [hc];rfl
     rw [hg]
     clear hc hg hb hi
     obtain ⟨RES,hRES⟩:∃ RES,Uh n (l+1) (2*m) ts1.tail=RES:=⟨_,rfl⟩
     rw [hRES]
     have hR:=Hd hRES.symm
     clear hRES
     obtain ⟨l1,hl1⟩:∃ l1,l+1=l1:=⟨_,rfl⟩
     obtain ⟨m1,hm1⟩:∃ m1,2*m=m1:=⟨_,rfl⟩
     rw [hl1,hm1] at RN hR HLI
     clear hl1 hm1
     go_enter Tryz.func128,Tryz.ntmps128
     go_wp2_with fail
     refine HA.out.mono ?_
     rintro e w1 ⟨rfl,rfl⟩
     go_wp2_with fail
     refine HK.out.mono ?_
     rintro e w2 ⟨rfl,r2,m2⟩
     have K2:=Hd (K0.out.next m2)
     have R2:=Hd r2
     clear r2 m2
     go_wp2_with fail
     refine (HI _ R2.out).out.mono ?_
     rintro e w3 ⟨rfl,r3,m3⟩
     have K3:=Hd (K2.out.next m3)
     have R3:=Hd r3
     clear r3 m3 HI
     go_wp2_with fail
     refine (HLI _).out.mono ?_
     rintro e w4 ⟨rfl,hb4⟩
     have K4:=Hd (K3.out.next (Z0.of_below hb4))
     have R4:=Hd (R3.out.below hb4)
     clear hb4 HLI K0 K2 K3 R0 R2 R3
     obtain ⟨k0,k1,k2,z0,z1,z2⟩:=Zn K4.out.2.1
     go_wp2_with fail
     clear k0 k1 k2 z0 z1 z2
     have K5:=Hd (K4.out.set2 (.string n) (.int .i64 (l1:Int)) (.int .i64 (m1:Int)))
     have R5:=Hd (((R4.out.set (b:=w.heap.size+1) (i:=0) (v:=.string n) (Nat.lt_succ_of_lt K4.out.2.2.2)).set (b:=w.heap.size+1) (i:=1) (v:=.int .i64 (l1:Int)) (Nat.lt_succ_of_lt K4.out.2.2.2)).set (b:=w.heap.size+1) (i:=2) (v:=.int .i64 (m1:Int)) (Nat.lt_succ_of_lt K4.out.2.2.2))
     refine (HN _ R5.out).out.mono ?_
     rintro e w6 ⟨rfl,r6,m6⟩
     have K6:=Hd (K5.out.next m6)
     have R6:=Hd r6
     clear r6 m6 HN K5 R5 K4 R4 HA HK
     go_wp2_with fail
     generalize ts1.tail=ts2 at *
     have HS:=Hd (Zv r ts2 d 1 bB _ R6.out)
     have hbb:Hid (Uh n l1 m1 ts2=if atB 1 bB ts2=true then ((n,l1,m1 ||| 1),ts2.tail) else ((n,l1,m1),ts2)):=Hd rfl
     have hst:Hid (Vj 1 bB ts2=if atB 1 bB ts2=true then ts2.tail else ts2):=Hd rfl
     generalize atB 1 bB ts2=q at *
     obtain ⟨k0,k1,k2,z0,z1,z2⟩:=Zn K6.out.2.1
     obtain ⟨j0,j1,j2,y0,y1,y2⟩:=Zn K6.out.1
     clear k0 k1 k2 z0 z1 z2 j0 j1 j2 y0 y1 y2
     go_wp2_with fail
     cases q with
     | false =>
       refine HS.out.mono ?_
       rintro e wa ⟨rfl,ra,ma⟩
       rw [hst.out] at ra
       have KA:=Hd (K6.out.next ma)
       have RA:=Hd ra
       obtain ⟨k0,k1,k2,z0,z1,z2⟩:=Zn KA.out.2.1
       obtain ⟨j0,j1,j2,y0,y1,y2⟩:=Zn KA.out.1
       clear ra ma HS
       go_wp2_with fail
       have KB:=Hd (KA.out.set1 (.string n) (.int .i64 (l1:Nat)) (.int .i64 (m1:Nat)))
       refine Sh rfl rfl rfl KB.out.1 ?_
       rw [hR.out,hbb.out]
       exact ⟨rfl,((RA.out.set (Nat.lt_of_lt_of_le KA.out.2.2.2 (Nat.le_refl _))).set (Nat.lt_of_lt_of_le KA.out.2.2.2 (Nat.le_refl _))).set (Nat.lt_of_lt_of_le KA.out.2.2.2 (Nat.le_refl _)),KB.out.2.2.1⟩
     | true =>
       refine HS.out.mono ?_
       rintro e wa ⟨rfl,ra,ma⟩
       rw [hst.out] at ra
       have KA:=Hd (K6.out.next ma)
       have RA:=Hd ra
       have HM:=fun wx=>Hd (by have h:=Zkd n (l1:Nat) (m1:Nat) wx RN.out.2.1;rw [Ya2 RN.out hleft] at h;exact h)
       obtain ⟨k0,k1,k2,z0,z1,z2⟩:=Zn KA.out.2.1
       clear ra ma HS
       go_wp2_with fail
       refine (HM _).out.mono ?_
       rintro e wb ⟨rfl,hb⟩
       have KB:=Hd (KA.out.next (Z0.of_below hb))
       have RB:=Hd (RA.out.below hb)
       clear hb k0 k1 k2 z0 z1 z2 HM
       obtain ⟨k0,k1,k2,z0,z1,z2⟩:=Zn KB.out.2.1
       obtain ⟨j0,j1,j2,y0,y1,y2⟩:=Zn KB.out.1
       go_wp2_with fail
       have KC:=Hd ((KB.out.set2 (.string n) (.int .i64 (l1:Nat)) (.int .i64 ((m1 ||| 1:Nat):Int))).set1 (.string n) (.int .i64 (l1:Nat)) (.int .i64 ((m1 ||| 1:Nat):Int)))
       refine Sh rfl rfl rfl KC.out.1 ?_
       rw [hR.out,hbb.out]
       have hlt:=KB.out.2.2.2
       exact ⟨rfl,(((((RB.out.set (by omega)).set (by omega)).set (by omega)).set (by omega)).set (by omega)).set (by omega),KC.out.2.2.1⟩
theorem Yih (left:Nat) (hleft:left≤4):∀ ts,Ih ts→Ym5 left ts:=by
 induction left with
 | zero =>
   intro ts hN
   cases hb:atB 1 oB ts with
   | true=>exact Yge ts hb
   | false=>exact Zjx 0 hleft ts hN hb
 | succ left ih =>
   intro ts hN
   cases hb:atB 1 oB ts with
   | true=>exact Yf6 left hleft (ih (by omega)) ts hN hb
   | false=>exact Zjx (left+1) hleft ts hN hb
theorem Gv (v:Value) (w:World):(Instr.typeAssert (.iface 145 v) 20 145 true).run Tryz.prog w=.ok (.tuple #[v,.bool true]) w:=by kernel_rfl
def pu:Int→List UInt8→Option Int
 | acc,[]=>some acc
 | acc,b :: t=>if Ch b then pu (acc*16+Ru b) t else none
def puS (l:List UInt8):Value:=match pu 0 l with|some v=>.tuple #[.int .u64 v,.nilIface]|none=>.tuple #[.int .u64 0,.iface 254 (.int .i64 2)]
def Rs (b:UInt8):Int:=bits .or .u8 (b.toNat:Int) 32
theorem Zyv:∀ b:UInt8,((48:Int)≤(b.toNat:Int)∧(b.toNat:Int)≤57)→Ch b=true∧Ru b=(b.toNat:Int) - 48:=Zw (by decide +kernel)
theorem Ykg:∀ b:UInt8,¬ ((48:Int)≤(b.toNat:Int)∧(b.toNat:Int)≤57)→(97:Int)≤Rs b→Rs b≤102→Ch b=true∧Ru b=Rs b - 87:=Zw (by decide +kernel)
theorem Yjl:∀ b:UInt8,¬ ((48:Int)≤(b.toNat:Int)∧(b.toNat:Int)≤57)→¬ ((97:Int)≤Rs b∧Rs b≤102)→Ch b=false:=Zw (by decide +kernel)
theorem Ybr (b:UInt8) (w:World):Calls Tryz.prog 295 #[.int .u8 (b.toNat:Int)] w fun e w'=>e=.returned (.int .u8 (Rs b))∧w=w':=by
 go_enter Tryz.func295,Tryz.ntmps295
 go_wp2
 go_ret
 exact ⟨rfl,rfl⟩
def lim:Nat→Int|0=>1|1=>16|2=>256|3=>4096|_=>65536
theorem Yme {k:Nat} {a:Int} (hk:k < 4) (h:a < lim k):a≤4095:=by
 rcases (by omega:k=0∨k=1∨k=2∨k=3) with rfl|rfl|rfl|rfl<;>simp only [lim] at h<;>omega
theorem Zk5 {k:Nat} {a d:Int} (hk:k < 4) (h:a < lim k) (hd:d≤15):a*16+d < lim (k+1):=by
 rcases (by omega:k=0∨k=1∨k=2∨k=3) with rfl|rfl|rfl|rfl<;>simp only [lim] at h ⊢<;>omega
theorem Zzu (w:World) (e:TypeId) (s:ByteArray):Below w.heap.size w (Lib.bytesWorld w e s):=by
 unfold Lib.bytesWorld
 exact Lib.below_freeze ((Below.drew (Below.refl _ w)).alloc (Nat.le_refl _) _) (p:=⟨w.heap.size,_,none⟩) (Nat.le_refl _) 1
theorem Zx4 (t:ByteArray) (h4:t.size=4) (w:World):Calls Tryz.prog 272 #[.string t,.int .i64 16,.int .i64 16] w fun e w'=>e=.returned (puS t.data.toList)∧Below w.heap.size w w':=by
 have hemp:=Ge (s:=t) (by omega)
 have hcv:=Lib.run_convert_string_bytes (P:=Tryz.prog) w 9 100 5 t (u:=.string) Tryz.underlying9 Tryz.underlying100 Tryz.underlying5
 have hB:∀ j,j < t.size→(Lib.bytesWorld w 5 t).cell? ⟨w.heap.size,j,none⟩=some (.int .u8 (t.data.toList.getD j 0).toNat):=fun j hj=>Lib.bytesWorld_cell w 5 t j hj
 have hbl:=Zzu w 5 t
 obtain ⟨W1,hW1⟩:∃ W1,W1=Lib.bytesWorld w 5 t:=⟨_,rfl⟩
 rw [← hW1] at hcv hB hbl
 have HBL:=Hd hbl
 clear hW1 hbl
 have hLn:=Z6 t
 obtain ⟨bs,hL⟩:∃ bs,bs=t.data.toList:=⟨_,rfl⟩
 rw [← hL] at hB hLn ⊢
 clear hL
 obtain ⟨V,hV⟩:∃ V,puS bs=V:=⟨_,rfl⟩
 have HV:=Hd hV
 rw [hV]
 clear hV
 have hmv:IntKind.u64.wrap (IntKind.u64.wrap 65536 - 1)=65535:=by
  rw [IntKind.wrap_u64,IntKind.wrap_u64]
  decide
 go_enter Tryz.func272,Tryz.ntmps272
 go_wp2
 go_loop [12,13,101] (fun vu vn vi=>∃ (k:Nat) (a:Int),vu=.bool false∧vn=.int .u64 a∧vi=.int .i64 k∧k≤t.size∧Hid (0≤a∧a < lim k∧pu 0 bs=pu a (bs.drop k)))
  (fun _ _ vi=>t.size - (intOf vi).toNat)
 case atStart=>exact ⟨0,0,rfl,rfl,rfl,by omega,Hd ⟨by omega,by simp [lim],rfl⟩⟩
 case round =>
  obtain ⟨k,a,rfl,rfl,rfl,hk,hh⟩:=hrel
  obtain ⟨a0,hal,hdec⟩:=hh.out
  clear hh
  by_cases hkn:k < t.size
  · have hk4:k < 4:=by omega
    have a1:=Yme hk4 hal
    have hc:=hB k hkn
    have hdrop:bs.drop k=bs[k]'(by omega) :: bs.drop (k+1):=List.drop_eq_getElem_cons (by omega)
    have hget:bs.getD k 0=bs[k]'(by omega):=by simp [List.getD,List.getElem?_eq_getElem (show k < bs.length by omega)]
    rw [hdrop] at hdec
    rw [hget] at hc
    generalize bs[k]'(by omega)=c at hc hdec
    have hc256:c.toNat < 256:=c.toNat_lt
    have HLO:=Hd (Ybr c W1)
    clear hB hdrop hget
    have h95:((c.toNat:Int) == 95)=true∨((c.toNat:Int) == 95)=false:=by cases ((c.toNat:Int) == 95)<;>simp
    by_cases hd0:(48:Int)≤(c.toNat:Int)∧(c.toNat:Int)≤57
    · obtain ⟨hx,hv⟩:=Zyv c hd0
      obtain ⟨d0,d1⟩:=hd0
      have HN:Hid (0≤a*16+((c.toNat:Int) - 48)∧a*16+((c.toNat:Int) - 48) < lim (k+1)∧pu 0 bs=pu (a*16+((c.toNat:Int) - 48)) (bs.drop (k+1))):=Hd ⟨by omega,Zk5 hk4 hal (by omega),hdec.trans (by rw [pu,hx,hv];rfl)⟩
      clear hdec hx hv hal h95
      go_wp2
      refine ⟨⟨k+1,a*16+((c.toNat:Int) - 48),rfl,(by first|rfl|(congr 1;omega)),(by first|rfl|(congr 1;omega)),by omega,HN⟩,by simp [intOf];omega⟩
    · have hdd:(c.toNat:Int) < 48∨(57 < (c.toNat:Int)):=by omega
      by_cases hl:(97:Int)≤Rs c∧Rs c≤102
      · obtain ⟨hx,hv⟩:=Ykg c hd0 hl.1 hl.2
        obtain ⟨l0,l1⟩:=hl
        have l2:Rs c≤122:=by omega
        have l3:Rs c - 87 < 16:=by omega
        have HN:Hid (0≤a*16+(Rs c - 87)∧a*16+(Rs c - 87) < lim (k+1)∧pu 0 bs=pu (a*16+(Rs c - 87)) (bs.drop (k+1))):=Hd ⟨by omega,Zk5 hk4 hal (by omega),hdec.trans (by rw [pu,hx,hv];rfl)⟩
        generalize Rs c=v at *
        clear hdec hx hv hal hd0
        rcases h95 with h95|h95
        focus
          skip
        rotate_left
        focus
          skip
        all_goals
          rcases hdd with hdd|hdd
          · have hdd3 : ¬ (48:Int)≤(c.toNat:Int):=by omega
            go_wp2_with fail
            refine HLO.out.mono ?_
            rintro e w1 ⟨rfl,rfl⟩
            go_wp2_with fail
            refine HLO.out.mono ?_
            rintro e w1 ⟨rfl,rfl⟩
            go_wp2_with fail
            refine HLO.out.mono ?_
            rintro e w1 ⟨rfl,rfl⟩
            go_wp2_with fail
            refine ⟨⟨k+1,a*16+(v - 87),rfl,(by first|rfl|(congr 1;omega)),(by first|rfl|(congr 1;omega)),by omega,HN⟩,by simp [intOf];omega⟩
          · have hdd1:(48:Int)≤(c.toNat:Int):=by omega
            have hdd2 : ¬ (c.toNat:Int)≤57:=by omega
            go_wp2_with fail
            refine HLO.out.mono ?_
            rintro e w1 ⟨rfl,rfl⟩
            go_wp2_with fail
            refine HLO.out.mono ?_
            rintro e w1 ⟨rfl,rfl⟩
            go_wp2_with fail
            refine HLO.out.mono ?_
            rintro e w1 ⟨rfl,rfl⟩
            go_wp2_with fail
            refine ⟨⟨k+1,a*16+(v - 87),rfl,(by first|rfl|(congr 1;omega)),(by first|rfl|(congr 1;omega)),by omega,HN⟩,by simp [intOf];omega⟩
      · have hx:=Yjl c hd0 hl
        have hF:Hid (V=.tuple #[.int .u64 0,.iface 254 (.int .i64 2)]):=Hd (by rw [← HV.out,puS,show pu 0 bs=none from hdec.trans (by simp [pu,hx])])
        have hlow:=bits_lo_u8 .or (c.toNat:Int) 32
        have hhi:=bits_hi_u8 .or (c.toNat:Int) 32
        change 0≤Rs c at hlow
        change Rs c≤255 at hhi
        generalize Rs c=v at *
        clear hdec hx hal hd0 HV
        rcases (by omega:v < 97∨(97≤v∧122 < v)∨(97≤v∧v≤122∧103≤v)) with l0|⟨l0,l1⟩|⟨l0,l1,l2⟩
        · clear hl
          have l9 : ¬ 97≤v:=by omega
          rcases h95 with h95|h95
          focus
            skip
          rotate_left
          focus
            skip
          all_goals
            rcases hdd with hdd|hdd
            · have hdd3 : ¬ (48:Int)≤(c.toNat:Int):=by omega
              go_wp2_with fail
              refine HLO.out.mono ?_
              rintro e w1 ⟨rfl,rfl⟩
              go_wp2_with fail
              go_ret2
              exact ⟨by rw [hF.out];rfl,HBL.out⟩
            · have hdd1:(48:Int)≤(c.toNat:Int):=by omega
              have hdd2 : ¬ (c.toNat:Int)≤57:=by omega
              go_wp2_with fail
              refine HLO.out.mono ?_
              rintro e w1 ⟨rfl,rfl⟩
              go_wp2_with fail
              go_ret2
              exact ⟨by rw [hF.out];rfl,HBL.out⟩
        · clear hl
          have l9 : ¬ v≤122:=by omega
          rcases h95 with h95|h95
          focus
            skip
          rotate_left
          focus
            skip
          all_goals
            rcases hdd with hdd|hdd
            · have hdd3 : ¬ (48:Int)≤(c.toNat:Int):=by omega
              go_wp2_with fail
              refine HLO.out.mono ?_
              rintro e w1 ⟨rfl,rfl⟩
              go_wp2_with fail
              refine HLO.out.mono ?_
              rintro e w1 ⟨rfl,rfl⟩
              go_wp2_with fail
              go_ret2
              exact ⟨by rw [hF.out];rfl,HBL.out⟩
            · have hdd1:(48:Int)≤(c.toNat:Int):=by omega
              have hdd2 : ¬ (c.toNat:Int)≤57:=by omega
              go_wp2_with fail
              refine HLO.out.mono ?_
              rintro e w1 ⟨rfl,rfl⟩
              go_wp2_with fail
              refine HLO.out.mono ?_
              rintro e w1 ⟨rfl,rfl⟩
              go_wp2_with fail
              go_ret2
              exact ⟨by rw [hF.out];rfl,HBL.out⟩
        · clear hl
          have l9 : ¬ v - 87 < 16:=by omega
          have l8:16≤v - 87:=by omega
          rcases h95 with h95|h95
          focus
            skip
          rotate_left
          focus
            skip
          all_goals
            rcases hdd with hdd|hdd
            · have hdd3 : ¬ (48:Int)≤(c.toNat:Int):=by omega
              go_wp2_with fail
              refine HLO.out.mono ?_
              rintro e w1 ⟨rfl,rfl⟩
              go_wp2_with fail
              refine HLO.out.mono ?_
              rintro e w1 ⟨rfl,rfl⟩
              go_wp2_with fail
              refine HLO.out.mono ?_
              rintro e w1 ⟨rfl,rfl⟩
              go_wp2_with fail
              go_ret2
              exact ⟨by rw [hF.out];rfl,HBL.out⟩
            · have hdd1:(48:Int)≤(c.toNat:Int):=by omega
              have hdd2 : ¬ (c.toNat:Int)≤57:=by omega
              go_wp2_with fail
              refine HLO.out.mono ?_
              rintro e w1 ⟨rfl,rfl⟩
              go_wp2_with fail
              refine HLO.out.mono ?_
              rintro e w1 ⟨rfl,rfl⟩
              go_wp2_with fail
              refine HLO.out.mono ?_
              rintro e w1 ⟨rfl,rfl⟩
              go_wp2_with fail
              go_ret2
              exact ⟨by rw [hF.out];rfl,HBL.out⟩
  · have hkk:k=t.size:=by omega
    have hF:Hid (pu 0 bs=some a):=Hd (hdec.trans (by rw [List.drop_eq_nil_of_le (by omega)];rfl))
    subst hkk
    clear hdec hal
    go_wp2
    go_ret2
    exact ⟨by rw [← HV.out,puS,hF.out];rfl,HBL.out⟩
def Jw (w:World):Prop:=Wy w∧∃ te pe,w.cell? ⟨2,0,none⟩=some (.iface te pe)
theorem Zxw {w:World} {b o:Nat} {v:Value} (h:w.cell? ⟨b,o,none⟩=some v):b < w.heap.size:=by
 rcases Nat.lt_or_ge b w.heap.size with h'|h'
 · exact h'
 · simp [World.cell?,Array.getElem?_eq_none h'] at h
theorem Jw.below {w w':World} (h:Jw w) (hb:Below w.heap.size w w'):Jw w':=by
 obtain ⟨ht,te,pe,hc⟩:=h
 exact ⟨ht.below hb ht.lt,te,pe,(hb.cell (p:=⟨2,0,none⟩) (Zxw hc)).trans hc⟩
theorem Jw.alloc {w:World} (h:Jw w) (o:Obj):Jw (w.alloc o):=h.below ((Below.refl _ _).alloc (Nat.le_refl _) o)
theorem Zyy (t:ByteArray) (h4:t.size=4) (v:Int) (hv:pu 0 t.data.toList=some v) (w:World):Calls Tryz.prog 305 #[.string t,.int .i64 16,.int .i64 16] w fun e w'=>e=.returned (.tuple #[.int .u64 v,.nilIface])∧Below w.heap.size w w':=by
 have hP:=Zx4 t h4 w
 rw [puS,hv] at hP
 have HP:=Hd hP
 clear hP
 go_enter Tryz.func305,Tryz.ntmps305
 go_wp2_with fail
 refine HP.out.mono ?_
 rintro e w1 ⟨rfl,hb⟩
 have HB:=Hd hb
 clear hb
 go_wp2_with fail
 go_ret2
 exact ⟨rfl,HB.out⟩
theorem Yfh (t:ByteArray) (h4:t.size=4) (hv:pu 0 t.data.toList=none) (w:World) (h3:Jw w):Calls Tryz.prog 305 #[.string t,.int .i64 16,.int .i64 16] w fun e w'=>∃ N,e=.returned (.tuple #[.int .u64 0,.iface 257 (.pointer (some ⟨N,0,none⟩))])∧Below w.heap.size w w':=by
 have hP:=Zx4 t h4 w
 rw [puS,hv] at hP
 have HP:=Hd hP
 have H3:=Hd h3
 clear hP h3
 go_enter Tryz.func305,Tryz.ntmps305
 go_wp2_with fail
 refine HP.out.mono ?_
 rintro e w1 ⟨rfl,hb⟩
 obtain ⟨te,pe,hc⟩:=(H3.out.below hb).2
 have HE:=Hd (Mk ⟨#[80,97,114,115,101,85,105,110,116]⟩ t 16 16 (.iface te pe) w1 (by omega) hc (.inr ⟨te,pe,rfl⟩))
 have HB:=Hd hb
 clear hb hc
 go_wp2_with fail
 refine HE.out.mono ?_
 rintro e w2 ⟨N,rfl,hb2⟩
 have HB2:=Hd hb2
 clear hb2
 go_wp2_with fail
 go_ret2
 exact ⟨N,rfl,HB.out.trans (HB2.out.mono HB.out.size)⟩
def Dd (l:List UInt8):Value:=match Zg l with|some u=>.tuple #[.int .i64 u,.bool true]|none=>.tuple #[.int .i64 0,.bool false]
theorem Yjm (a b c d:UInt8) (r:List UInt8):Zg (92 :: 117 :: a :: b :: c :: d :: r)=pu 0 [a,b,c,d]:=by
 simp only [Zg,pu]
 cases Ch a<;>cases Ch b<;>cases Ch c<;>cases Ch d<;>simp [Yk5]
theorem Ygy {l:List UInt8} (h:pre [92,117] l=false):Zg l=none:=by
 cases hu:Zg l with
 | none=>rfl
 | some u =>
   obtain ⟨t,rfl⟩:=Cg hu
   cases h
theorem Zxq {l:List UInt8} (h:l.length < 6):Zg l=none:=by
 cases hu:Zg l with
 | none=>rfl
 | some u=>have:=Ve hu;omega
theorem Yb8 {l:List UInt8} (h:pre [92,117] l=true) (hl:6≤l.length):Zg l=pu 0 ((l.drop 2).take 4):=by
 match l,hl with
 | x :: y :: a :: b :: c :: d :: r,_ =>
   unfold pre at h
   simp only [List.isPrefixOf_cons_cons,Bool.and_eq_true,beq_iff_eq] at h
   obtain ⟨rfl,rfl,_⟩:=h
   rw [Yjm]
   rfl
theorem Ym4 (s q:ByteArray) (w:World) (h:pre q.data.toList s.data.toList=false):Calls Tryz.prog 304 #[.string s,.string q] w fun e w'=>e=.returned (.tuple #[.string s,.bool false])∧w=w':=
 (Wd s q w).mono fun _ _ ⟨he,hw⟩=>⟨by
  have h':Lib.hasPrefix s.data.toList q.data.toList=false:=h
  rw [he,Lib.trimPrefix,h',if_neg (by simp),Gz rfl],hw.symm⟩
theorem Yig (s q:ByteArray) (w:World) (h:pre q.data.toList s.data.toList=true):Calls Tryz.prog 304 #[.string s,.string q] w fun e w'=>e=.returned (.tuple #[.string (s.extract q.size s.size),.bool true])∧w=w':=
 (Wd s q w).mono fun _ _ ⟨he,hw⟩=>⟨by
  have h':Lib.hasPrefix s.data.toList q.data.toList=true:=h
  rw [he,Lib.trimPrefix,h',if_pos rfl,Z6,Gz (Xl s q.size)],hw.symm⟩
theorem Zjr (s:ByteArray) (w:World) (hs:s.size≤9000) (h3:Jw w):Calls Tryz.prog 289 #[.string s] w fun e w'=>e=.returned (Dd s.data.toList)∧Below w.heap.size w w':=by
 have hl:=Z6 s
 cases hp:pre [92,117] s.data.toList
 · have HC:=Hd (Ym4 s ⟨#[92,117]⟩ w hp)
   have hr:Hid (Dd s.data.toList=.tuple #[.int .i64 0,.bool false]):=Hd (by rw [Dd,Ygy hp])
   clear hp hl h3
   go_enter Tryz.func289,Tryz.ntmps289
   go_wp2_with fail
   refine HC.out.mono ?_
   rintro e w1 ⟨rfl,rfl⟩
   go_wp2_with fail
   go_ret2
   exact ⟨by rw [hr.out];rfl,Below.refl _ _⟩
 · have hC:=Yig s ⟨#[92,117]⟩ w hp
   rw [show (⟨#[92,117]⟩:ByteArray).size=2 from rfl] at hC
   have h2:2≤s.size:=by have:=Vk hp;rw [hl] at this;exact this
   obtain ⟨t,ht⟩:∃ t,s.extract 2 s.size=t:=⟨_,rfl⟩
   have htd:t.data.toList=s.data.toList.drop 2:=by rw [← ht,Xl]
   have hts:t.size=s.size - 2:=by rw [← ht,Us]
   rw [ht] at hC
   have HC:=Hd hC
   clear hC ht
   by_cases h6:s.size < 6
   · have hr:Hid (Dd s.data.toList=.tuple #[.int .i64 0,.bool false]):=Hd (by rw [Dd,Zxq (by omega)])
     have e4:(t.size:Int) < 4:=by omega
     clear hp hl h3 htd
     go_enter Tryz.func289,Tryz.ntmps289
     go_wp2_with fail
     refine HC.out.mono ?_
     rintro e w1 ⟨rfl,rfl⟩
     go_wp2_with fail
     go_ret2
     exact ⟨by rw [hr.out];rfl,Below.refl _ _⟩
   · have e4 : ¬ (t.size:Int) < 4:=by omega
     have e5:4≤t.size:=by omega
     have hu:=Yb8 hp (by omega)
     rw [← htd,← Cq t 4] at hu
     have h4s:(t.extract 0 4).size=4:=by simp;omega
     cases hv:pu 0 (t.extract 0 4).data.toList with
     | none =>
       have hr:Hid (Dd s.data.toList=.tuple #[.int .i64 0,.bool false]):=Hd (by rw [Dd,hu,hv])
       have HP:=Hd (Yfh (t.extract 0 4) h4s hv w h3)
       clear hp hl h3 htd hu hv h4s
       go_enter Tryz.func289,Tryz.ntmps289
       go_wp2_with fail
       refine HC.out.mono ?_
       rintro e w1 ⟨rfl,rfl⟩
       go_wp2_with fail
       refine HP.out.mono ?_
       rintro e w1 ⟨N,rfl,hb⟩
       have HB:=Hd hb
       clear hb
       go_wp2_with fail
       go_quiet (fail)
       go_wp2_with fail
       go_ret2
       exact ⟨by rw [hr.out];rfl,Lv HB.out _⟩
     | some v =>
       have hr:Hid (Dd s.data.toList=.tuple #[.int .i64 v,.bool true]):=Hd (by rw [Dd,hu,hv])
       have HP:=Hd (Zyy (t.extract 0 4) h4s v hv w)
       have hvb:=S5 (hu.trans hv)
       obtain ⟨v0,v1⟩:=hvb
       clear hp hl h3 htd hu hv h4s
       go_enter Tryz.func289,Tryz.ntmps289
       go_wp2_with fail
       refine HC.out.mono ?_
       rintro e w1 ⟨rfl,rfl⟩
       go_wp2_with fail
       refine HP.out.mono ?_
       rintro e w1 ⟨rfl,hb⟩
       have HB:=Hd hb
       clear hb
       go_wp2_with fail
       go_quiet (fail)
       go_wp2_with fail
       go_ret2
       exact ⟨by rw [hr.out];rfl,Lv HB.out _⟩
theorem Yis (s:ByteArray) (k:Nat) (w:World) (hs:s.size≤9000) (h3:Jw w):Calls Tryz.prog 289 #[.string (s.extract k s.size)] w fun e w'=>e=.returned (Dd (s.data.toList.drop k))∧Below w.heap.size w w':=by
 have h:=Zjr (s.extract k s.size) w (by rw [Us];omega) h3
 rwa [Xl] at h
end Go.Proofs.YtpkmbhnikilihaaGreatDoor
