/- seineref6.SameParams and Texts over equal trees. (gen_sdsame.py wrote it.) -/
import Derived.Test.YtkmloefbkgcbkaaGreatDoorSr25
set_option maxRecDepth 100000
set_option maxHeartbeats 8000000
namespace Go.Proofs.YtkmloefbkgcbkaaGreatDoor
open Go.RowKit
theorem Zvx (x:Cb):(Zk x).len=10:=by
 unfold Zk;simp only [TrS.len,W5]
theorem Yko {w:World} {B:Nat} {l:List Cb} {A:Option Addr} {q:Nat} {nm tn:ByteArray} {tl tm:Nat} {has:Bool} {vk vn:Int} {vs:ByteArray} {vl:VL} {vm:VM} (h:Xc w (fun b=>b < B) (Z5 Zk l) A) (hx:l[q]? = some ⟨nm,tn,tl,tm,has,.mk vk vn vs vl vm⟩) :
  ∃ b p Al kl Am km,A=some ⟨b,p,none⟩∧b < B∧(w.cell? ⟨b,p+q*10,none⟩=some (.string nm)∧w.cell? ⟨b,p+q*10+1,none⟩=some (.string tn)∧w.cell? ⟨b,p+q*10+2,none⟩=some (.int .i64 (tl:Int))∧w.cell? ⟨b,p+q*10+3,none⟩=some (.int .i64 (tm:Int))∧w.cell? ⟨b,p+q*10+4,none⟩=some (.bool has)∧w.cell? ⟨b,p+q*10+5,none⟩=some (.int .i64 vk)∧w.cell? ⟨b,p+q*10+6,none⟩=some (.int .i64 vn)∧w.cell? ⟨b,p+q*10+7,none⟩=some (.string vs)∧w.cell? ⟨b,p+q*10+8,none⟩=some (.slice Al vl.len kl)∧w.cell? ⟨b,p+q*10+9,none⟩=some (.slice Am vm.len km))∧VAt w B (.mk vk vn vs vl vm) (.int .i64 vk) (.int .i64 vn) (.string vs) (.slice Al vl.len kl) (.slice Am vm.len km):=by
 obtain ⟨b,p,cs,e,hb,hc,h1⟩:=L0 10 Zvx h hx;simp only [Zk,TS,TP] at h1;obtain ⟨c0,_,rfl,⟨rfl,_⟩,c1,_,rfl,⟨rfl,_⟩,c2,_,rfl,⟨rfl,_⟩,c3,_,rfl,⟨rfl,_⟩,c4,ys,rfl,⟨rfl,_⟩,h2⟩:=h1;obtain ⟨d0,d1,d2,d3,d4,rfl,hv⟩:=Yln _ _ h2;have hv:=VP.at (fun _ h=>h) _ _ _ _ _ _ hv;have hv0:=hv;unfold VAt at hv;obtain ⟨rfl,rfl,rfl,_,⟨Al,kl,rfl,_,_⟩,Am,km,rfl,_,_⟩:=hv;exact ⟨b,p,Al,kl,Am,km,e,hb,⟨hc 0 _ rfl,hc 1 _ rfl,hc 2 _ rfl,hc 3 _ rfl,hc 4 _ rfl,hc 5 _ rfl,hc 6 _ rfl,hc 7 _ rfl,hc 8 _ rfl,hc 9 _ rfl⟩,hv0⟩
def Tn (w:World) (b O:Nat) (c0 c1 c2 c3 c4 c5 c6 c7 c8 c9:Value) (b' O':Nat) (d0 d1 d2 d3 d4 d5 d6 d7 d8 d9:Value) (W:World):Prop:=
 (W.cell? ⟨b,O,none⟩=some c0∧W.cell? ⟨b,O+1,none⟩=some c1∧W.cell? ⟨b,O+2,none⟩=some c2∧W.cell? ⟨b,O+3,none⟩=some c3∧W.cell? ⟨b,O+4,none⟩=some c4∧W.cell? ⟨b,O+5,none⟩=some c5∧W.cell? ⟨b,O+6,none⟩=some c6∧W.cell? ⟨b,O+7,none⟩=some c7∧W.cell? ⟨b,O+8,none⟩=some c8∧W.cell? ⟨b,O+9,none⟩=some c9∧W.cell? ⟨b',O',none⟩=some d0∧W.cell? ⟨b',O'+1,none⟩=some d1∧W.cell? ⟨b',O'+2,none⟩=some d2∧W.cell? ⟨b',O'+3,none⟩=some d3∧W.cell? ⟨b',O'+4,none⟩=some d4∧W.cell? ⟨b',O'+5,none⟩=some d5∧W.cell? ⟨b',O'+6,none⟩=some d6∧W.cell? ⟨b',O'+7,none⟩=some d7∧W.cell? ⟨b',O'+8,none⟩=some d8∧W.cell? ⟨b',O'+9,none⟩=some d9)∧Below w.heap.size w W
theorem Tn.next {w W:World} {b O:Nat} {c0 c1 c2 c3 c4 c5 c6 c7 c8 c9:Value} {b' O':Nat} {d0 d1 d2 d3 d4 d5 d6 d7 d8 d9:Value} {W':World} (h:Tn w b O c0 c1 c2 c3 c4 c5 c6 c7 c8 c9 b' O' d0 d1 d2 d3 d4 d5 d6 d7 d8 d9 W) (hl:b < w.heap.size) (hl':b' < w.heap.size) (hb:Below W.heap.size W W'):Tn w b O c0 c1 c2 c3 c4 c5 c6 c7 c8 c9 b' O' d0 d1 d2 d3 d4 d5 d6 d7 d8 d9 W':=by
 obtain ⟨⟨g0,g1,g2,g3,g4,g5,g6,g7,g8,g9,f0,f1,f2,f3,f4,f5,f6,f7,f8,f9⟩,hK⟩:=h;have g:=Nat.lt_of_lt_of_le hl hK.size;have g':=Nat.lt_of_lt_of_le hl' hK.size;exact ⟨⟨(hb.cell (p:=⟨b,_,none⟩) g).trans g0,(hb.cell (p:=⟨b,_,none⟩) g).trans g1,(hb.cell (p:=⟨b,_,none⟩) g).trans g2,(hb.cell (p:=⟨b,_,none⟩) g).trans g3,(hb.cell (p:=⟨b,_,none⟩) g).trans g4,(hb.cell (p:=⟨b,_,none⟩) g).trans g5,(hb.cell (p:=⟨b,_,none⟩) g).trans g6,(hb.cell (p:=⟨b,_,none⟩) g).trans g7,(hb.cell (p:=⟨b,_,none⟩) g).trans g8,(hb.cell (p:=⟨b,_,none⟩) g).trans g9,(hb.cell (p:=⟨b',_,none⟩) g').trans f0,(hb.cell (p:=⟨b',_,none⟩) g').trans f1,(hb.cell (p:=⟨b',_,none⟩) g').trans f2,(hb.cell (p:=⟨b',_,none⟩) g').trans f3,(hb.cell (p:=⟨b',_,none⟩) g').trans f4,(hb.cell (p:=⟨b',_,none⟩) g').trans f5,(hb.cell (p:=⟨b',_,none⟩) g').trans f6,(hb.cell (p:=⟨b',_,none⟩) g').trans f7,(hb.cell (p:=⟨b',_,none⟩) g').trans f8,(hb.cell (p:=⟨b',_,none⟩) g').trans f9⟩,hK.trans (hb.mono hK.size)⟩
theorem Tn.written {w W:World} {b O:Nat} {c0 c1 c2 c3 c4 c5 c6 c7 c8 c9:Value} {b' O':Nat} {d0 d1 d2 d3 d4 d5 d6 d7 d8 d9:Value} (h:Tn w b O c0 c1 c2 c3 c4 c5 c6 c7 c8 c9 b' O' d0 d1 d2 d3 d4 d5 d6 d7 d8 d9 W):W.cell? ⟨b,O,none⟩=some c0∧W.cell? ⟨b,O+1,none⟩=some c1∧W.cell? ⟨b,O+2,none⟩=some c2∧W.cell? ⟨b,O+3,none⟩=some c3∧W.cell? ⟨b,O+4,none⟩=some c4∧W.cell? ⟨b,O+5,none⟩=some c5∧W.cell? ⟨b,O+6,none⟩=some c6∧W.cell? ⟨b,O+7,none⟩=some c7∧W.cell? ⟨b,O+8,none⟩=some c8∧W.cell? ⟨b,O+9,none⟩=some c9∧W.cell? ⟨b',O',none⟩=some d0∧W.cell? ⟨b',O'+1,none⟩=some d1∧W.cell? ⟨b',O'+2,none⟩=some d2∧W.cell? ⟨b',O'+3,none⟩=some d3∧W.cell? ⟨b',O'+4,none⟩=some d4∧W.cell? ⟨b',O'+5,none⟩=some d5∧W.cell? ⟨b',O'+6,none⟩=some d6∧W.cell? ⟨b',O'+7,none⟩=some d7∧W.cell? ⟨b',O'+8,none⟩=some d8∧W.cell? ⟨b',O'+9,none⟩=some d9∧Tn w b O c0 c1 c2 c3 c4 c5 c6 c7 c8 c9 b' O' d0 d1 d2 d3 d4 d5 d6 d7 d8 d9 W:=by
 have h':=h;obtain ⟨⟨g0,g1,g2,g3,g4,g5,g6,g7,g8,g9,f0,f1,f2,f3,f4,f5,f6,f7,f8,f9⟩,hK⟩:=h;exact ⟨g0,g1,g2,g3,g4,g5,g6,g7,g8,g9,f0,f1,f2,f3,f4,f5,f6,f7,f8,f9,h'⟩
theorem Zqb (l:List Cb) (A A':Option Addr) (c c':Nat) (w:World) (B:Nat) (hB:B≤w.heap.size) (hl:l.length≤9223372036854775807) (h1:Xc w (fun b=>b < B) (Z5 Zk l) A) (h2:Xc w (fun b=>b < B) (Z5 Zk l) A') :
  Calls Tryz.prog 36 #[.slice A l.length c,.slice A' l.length c'] w fun e w'=>e=.returned (.bool true)∧Below w.heap.size w w':=by
 have H1:=Hd h1;have H2:=Hd h2;have HB0:=Hd hB;clear h1 h2 hB;have e0:((l.length:Int) != (l.length:Int))=false:=by simp
 go_enter Tryz.func36,Tryz.ntmps36
 go_wp2_with fail
 go_loopg [5] l.length (fun g i wx=>∃ q:Nat,q+g=l.length∧i=.int .i64 q∧Below w.heap.size w wx)
 case atStart=>exact ⟨0,by omega,rfl,Below.refl _ _⟩
 case round =>
  obtain ⟨q,hq,rfl,hb⟩:=hrel;have HBB:=Hd hb;clear hb
  cases gk with
  | zero =>
    obtain rfl:q=l.length:=by omega
    go_wp2_with fail
    go_ret
    exact ⟨rfl,HBB.out⟩
  | succ g =>
    have hqn:q < l.length:=by omega
    have hqn':(q:Int) < (l.length:Int):=by omega
    obtain ⟨⟨nm,tn,tl,tm,has,⟨vk,vn,vs,vl,vm⟩⟩,hv⟩:∃ x,l[q]? = some x:=⟨_,List.getElem?_eq_getElem hqn⟩;obtain ⟨b,o,Al,kl,Am,km,rfl,hblt,⟨g0,g1,g2,g3,g4,g5,g6,g7,g8,g9⟩,V1⟩:=Yko (Xc.below (HBB.out.mono HB0.out) H1.out) hv;obtain ⟨b',o',Al',kl',Am',km',rfl,hblt',⟨f0,f1,f2,f3,f4,f5,f6,f7,f8,f9⟩,V2⟩:=Yko (Xc.below (HBB.out.mono HB0.out) H2.out) hv;have HBX:=Nat.le_trans HB0.out HBB.out.size;have eM:(nm.toList != nm.toList)=false:=by simp
    have eT:(tn.toList != tn.toList)=false:=by simp
    have eT':(tn.toList == tn.toList)=true:=by simp
    have eH:(has != has)=false:=by simp
    have HBW:Hid (b < w.heap.size):=Hd (Nat.lt_of_lt_of_le hblt HB0.out);have HBW':Hid (b' < w.heap.size):=Hd (Nat.lt_of_lt_of_le hblt' HB0.out);have hE0:Tn w b (o+q*10) (.string nm) (.string tn) (.int .i64 (tl:Int)) (.int .i64 (tm:Int)) (.bool has) (.int .i64 vk) (.int .i64 vn) (.string vs) (.slice Al vl.len kl) (.slice Am vm.len km) b' (o'+q*10) (.string nm) (.string tn) (.int .i64 (tl:Int)) (.int .i64 (tm:Int)) (.bool has) (.int .i64 vk) (.int .i64 vn) (.string vs) (.slice Al' vl.len kl') (.slice Am' vm.len km') wr:=⟨⟨g0,g1,g2,g3,g4,g5,g6,g7,g8,g9,f0,f1,f2,f3,f4,f5,f6,f7,f8,f9⟩,HBB.out⟩;have C:=fun (wx:World) (hx:Below wr.heap.size wr wx)=>Hd ((Yen _).yes rfl (.int .i64 vk) (.int .i64 vn) (.string vs) (.slice Al vl.len kl) (.slice Am vm.len km) (.int .i64 vk) (.int .i64 vn) (.string vs) (.slice Al' vl.len kl') (.slice Am' vm.len km') wx B (Nat.le_trans HBX hx.size) (VAt.below (hx.mono HBX) _ _ _ _ _ _ V1) (VAt.below (hx.mono HBX) _ _ _ _ _ _ V2));clear V1 V2 hv hblt hblt' HBX;go_wp2_with fail
    go_region_held3 (fun w'=>w'.cell? ⟨b,o+q*10,none⟩=some (.string nm)∧w'.cell? ⟨b,o+q*10+1,none⟩=some (.string tn)∧w'.cell? ⟨b,o+q*10+2,none⟩=some (.int .i64 (tl:Int))∧w'.cell? ⟨b,o+q*10+3,none⟩=some (.int .i64 (tm:Int))∧w'.cell? ⟨b,o+q*10+4,none⟩=some (.bool has)∧w'.cell? ⟨b,o+q*10+5,none⟩=some (.int .i64 vk)∧w'.cell? ⟨b,o+q*10+6,none⟩=some (.int .i64 vn)∧w'.cell? ⟨b,o+q*10+7,none⟩=some (.string vs)∧w'.cell? ⟨b,o+q*10+8,none⟩=some (.slice Al vl.len kl)∧w'.cell? ⟨b,o+q*10+9,none⟩=some (.slice Am vm.len km)∧w'.cell? ⟨b',o'+q*10,none⟩=some (.string nm)∧w'.cell? ⟨b',o'+q*10+1,none⟩=some (.string tn)∧w'.cell? ⟨b',o'+q*10+2,none⟩=some (.int .i64 (tl:Int))∧w'.cell? ⟨b',o'+q*10+3,none⟩=some (.int .i64 (tm:Int))∧w'.cell? ⟨b',o'+q*10+4,none⟩=some (.bool has)∧w'.cell? ⟨b',o'+q*10+5,none⟩=some (.int .i64 vk)∧w'.cell? ⟨b',o'+q*10+6,none⟩=some (.int .i64 vn)∧w'.cell? ⟨b',o'+q*10+7,none⟩=some (.string vs)∧w'.cell? ⟨b',o'+q*10+8,none⟩=some (.slice Al' vl.len kl')∧w'.cell? ⟨b',o'+q*10+9,none⟩=some (.slice Am' vm.len km')∧Tn w b (o+q*10) (.string nm) (.string tn) (.int .i64 (tl:Int)) (.int .i64 (tm:Int)) (.bool has) (.int .i64 vk) (.int .i64 vn) (.string vs) (.slice Al vl.len kl) (.slice Am vm.len km) b' (o'+q*10) (.string nm) (.string tn) (.int .i64 (tl:Int)) (.int .i64 (tm:Int)) (.bool has) (.int .i64 vk) (.int .i64 vn) (.string vs) (.slice Al' vl.len kl') (.slice Am' vm.len km') w')
     (first
      | exact Tn.written (Tn.next hE0 HBW.out HBW'.out (Below.drew (Below.refl _ _)))
      | exact Tn.written ((Tn.next hE0 HBW.out HBW'.out (Below.drew (Below.refl _ _))).next HBW.out HBW'.out (by assumption))
      | exact Tn.written (Tn.next hE0 HBW.out HBW'.out (by assumption))
      | exact Tn.written (Tn.next (by assumption) HBW.out HBW'.out (by assumption))
      | go_keep)
     ((first|(go_at_call 70;refine (C _ (by first|exact Below.drew (Below.refl _ _)|exact Below.refl _ _|assumption)).out.mono ?_;rintro e w' ⟨rfl,hb⟩)))
    all_goals
     have HKM:Tn w b (o+q*10) (.string nm) (.string tn) (.int .i64 (tl:Int)) (.int .i64 (tm:Int)) (.bool has) (.int .i64 vk) (.int .i64 vn) (.string vs) (.slice Al vl.len kl) (.slice Am vm.len km) b' (o'+q*10) (.string nm) (.string tn) (.int .i64 (tl:Int)) (.int .i64 (tm:Int)) (.bool has) (.int .i64 vk) (.int .i64 vn) (.string vs) (.slice Al' vl.len kl') (.slice Am' vm.len km') w':=And.right (And.right (And.right (And.right (And.right (And.right (And.right (And.right (And.right (And.right (And.right (And.right (And.right (And.right (And.right (And.right (And.right (And.right (And.right (And.right (by assumption))))))))))))))))))));have HKB:=Hd HKM.2;clear HKM hE0 C g0 g1 g2 g3 g4 g5 g6 g7 g8 g9 f0 f1 f2 f3 f4 f5 f6 f7 f8 f9;go_wp2_with fail
     go_roundg g
     case measure=>omega
     case rel=>exact ⟨q+1,by omega,by go_num,HKB.out⟩
theorem Yk8 {w:World} {B:Nat} {l:List ByteArray} {A:Option Addr} {q:Nat} {s:ByteArray} (h:Xc w (fun b=>b < B) (Z5 Zd l) A) (hx:l[q]? = some s) :
  ∃ b o,A=some ⟨b,o,none⟩∧b < B∧w.cell? ⟨b,o+q,none⟩=some (.string s):=by
 obtain ⟨b,o,cs,e,hb,hc,h1⟩:=L0 1 (fun _=>rfl) h hx;simp only [Zd,TS,TP] at h1;obtain ⟨c0,_,rfl,⟨rfl,_⟩,rfl⟩:=h1;have:=hc 0 _ rfl;rw [Nat.mul_one,Nat.add_zero] at this;exact ⟨b,o,e,hb,this⟩
theorem Zql (l:List ByteArray) (A A':Option Addr) (c c':Nat) (w:World) (B:Nat) (hB:B≤w.heap.size) (hl:l.length≤9223372036854775807) (h1:Xc w (fun b=>b < B) (Z5 Zd l) A) (h2:Xc w (fun b=>b < B) (Z5 Zd l) A') :
  Calls Tryz.prog 35 #[.slice A l.length c,.slice A' l.length c'] w fun e w'=>e=.returned (.bool true)∧Below w.heap.size w w':=by
 have H1:=Hd h1;have H2:=Hd h2;have HB0:=Hd hB;clear h1 h2 hB;have e0:((l.length:Int) != (l.length:Int))=false:=by simp
 go_enter Tryz.func35,Tryz.ntmps35
 go_wp2_with fail
 go_loopg [5] l.length (fun g i wx=>∃ q:Nat,q+g=l.length∧i=.int .i64 q∧Below w.heap.size w wx)
 case atStart=>exact ⟨0,by omega,rfl,Below.refl _ _⟩
 case round =>
  obtain ⟨q,hq,rfl,hb⟩:=hrel;have HBB:=Hd hb;clear hb
  cases gk with
  | zero =>
    obtain rfl:q=l.length:=by omega
    go_wp2_with fail
    go_ret
    exact ⟨rfl,HBB.out⟩
  | succ g =>
    have hqn:q < l.length:=by omega
    have hqn':(q:Int) < (l.length:Int):=by omega
    obtain ⟨s,hv⟩:∃ x,l[q]? = some x:=⟨_,List.getElem?_eq_getElem hqn⟩;obtain ⟨b,o,rfl,hblt,g0⟩:=Yk8 (Xc.below (HBB.out.mono HB0.out) H1.out) hv;obtain ⟨b',o',rfl,hblt',f0⟩:=Yk8 (Xc.below (HBB.out.mono HB0.out) H2.out) hv;have eM:(s.toList != s.toList)=false:=by simp
    have hw1:b < wr.heap.size:=Nat.lt_of_lt_of_le hblt (Nat.le_trans HB0.out HBB.out.size);have hw2:b' < wr.heap.size:=Nat.lt_of_lt_of_le hblt' (Nat.le_trans HB0.out HBB.out.size);clear hv hblt hblt';go_wp2_with fail
    go_region
    all_goals
     go_wp2_with fail
     go_roundg g
     case measure=>omega
     case rel=>exact ⟨q+1,by omega,by go_num,HBB.out.drew⟩
def BK6 (w:World) (x y:Nat) (c0 c1 c2 c3 c4 c5 d0 d1 d2 d3 d4 d5:Value) (W:World):Prop:=
 (W.cell? ⟨x,0,none⟩=some c0∧W.cell? ⟨x,1,none⟩=some c1∧W.cell? ⟨x,2,none⟩=some c2∧W.cell? ⟨x,3,none⟩=some c3∧W.cell? ⟨x,4,none⟩=some c4∧W.cell? ⟨x,5,none⟩=some c5∧W.cell? ⟨y,0,none⟩=some d0∧W.cell? ⟨y,1,none⟩=some d1∧W.cell? ⟨y,2,none⟩=some d2∧W.cell? ⟨y,3,none⟩=some d3∧W.cell? ⟨y,4,none⟩=some d4∧W.cell? ⟨y,5,none⟩=some d5)∧x < W.heap.size∧y < W.heap.size∧Below w.heap.size w W
theorem BK6.cells {w W:World} {x y:Nat} {c0 c1 c2 c3 c4 c5 d0 d1 d2 d3 d4 d5:Value} (h:BK6 w x y c0 c1 c2 c3 c4 c5 d0 d1 d2 d3 d4 d5 W):W.cell? ⟨x,0,none⟩=some c0∧W.cell? ⟨x,1,none⟩=some c1∧W.cell? ⟨x,2,none⟩=some c2∧W.cell? ⟨x,3,none⟩=some c3∧W.cell? ⟨x,4,none⟩=some c4∧W.cell? ⟨x,5,none⟩=some c5∧W.cell? ⟨y,0,none⟩=some d0∧W.cell? ⟨y,1,none⟩=some d1∧W.cell? ⟨y,2,none⟩=some d2∧W.cell? ⟨y,3,none⟩=some d3∧W.cell? ⟨y,4,none⟩=some d4∧W.cell? ⟨y,5,none⟩=some d5:=h.1
theorem BK6.below {w W:World} {x y:Nat} {c0 c1 c2 c3 c4 c5 d0 d1 d2 d3 d4 d5:Value} (h:BK6 w x y c0 c1 c2 c3 c4 c5 d0 d1 d2 d3 d4 d5 W):Below w.heap.size w W:=h.2.2.2
theorem BK6.next {w W W':World} {x y:Nat} {c0 c1 c2 c3 c4 c5 d0 d1 d2 d3 d4 d5:Value} (h:BK6 w x y c0 c1 c2 c3 c4 c5 d0 d1 d2 d3 d4 d5 W) (hb:Below W.heap.size W W'):BK6 w x y c0 c1 c2 c3 c4 c5 d0 d1 d2 d3 d4 d5 W':=by
 obtain ⟨⟨g0,g1,g2,g3,g4,g5,f0,f1,f2,f3,f4,f5⟩,hx,hy,hB⟩:=h;exact ⟨⟨(hb.cell (p:=⟨x,_,none⟩) hx).trans g0,(hb.cell (p:=⟨x,_,none⟩) hx).trans g1,(hb.cell (p:=⟨x,_,none⟩) hx).trans g2,(hb.cell (p:=⟨x,_,none⟩) hx).trans g3,(hb.cell (p:=⟨x,_,none⟩) hx).trans g4,(hb.cell (p:=⟨x,_,none⟩) hx).trans g5,(hb.cell (p:=⟨y,_,none⟩) hy).trans f0,(hb.cell (p:=⟨y,_,none⟩) hy).trans f1,(hb.cell (p:=⟨y,_,none⟩) hy).trans f2,(hb.cell (p:=⟨y,_,none⟩) hy).trans f3,(hb.cell (p:=⟨y,_,none⟩) hy).trans f4,(hb.cell (p:=⟨y,_,none⟩) hy).trans f5⟩,Nat.lt_of_lt_of_le hx hb.size,Nat.lt_of_lt_of_le hy hb.size,hB.trans (hb.mono hB.size)⟩
theorem BK6.start (w:World) (c0 c1 c2 c3 c4 c5 d0 d1 d2 d3 d4 d5:Value) (t:TypeId):BK6 w (w.heap.size) (w.heap.size+1) c0 c1 c2 c3 c4 c5 d0 d1 d2 d3 d4 d5 ((w.alloc (.cells #[c0,c1,c2,c3,c4,c5] t)).alloc (.cells #[d0,d1,d2,d3,d4,d5] t)):=by
 have k0:((w.alloc (.cells #[c0,c1,c2,c3,c4,c5] t)).alloc (.cells #[d0,d1,d2,d3,d4,d5] t)).heap[w.heap.size]? = some (.cells #[c0,c1,c2,c3,c4,c5] t):=by
  show ((w.alloc (.cells #[c0,c1,c2,c3,c4,c5] t)).alloc (.cells #[d0,d1,d2,d3,d4,d5] t)).heap[w.heap.size]? = _;rw [Below.heap_alloc _ _ _ (by simp)]
  show (w.heap.push _)[w.heap.size]? = _;simp
 have k1:((w.alloc (.cells #[c0,c1,c2,c3,c4,c5] t)).alloc (.cells #[d0,d1,d2,d3,d4,d5] t)).heap[w.heap.size+1]? = some (.cells #[d0,d1,d2,d3,d4,d5] t):=by
  show ((w.heap.push _).push _)[w.heap.size+1]? = _;rw [Array.getElem?_push,if_pos (by simp)]
 refine ⟨⟨?_,?_,?_,?_,?_,?_,?_,?_,?_,?_,?_,?_⟩,?_,?_,((Below.refl _ _).alloc (Nat.le_refl _) _).alloc (by simp) _⟩
 all_goals first|(simp only [World.cell?];first|(rw [k0];rfl)|(rw [k1];rfl))|(show _ < ((w.heap.push _).push _).size;simp;done)|(show _ < ((w.heap.push _).push _).size;simp;omega)
def Ud (w:World) (B:Nat) (ps:List Cb) (d:List Wg) (Ap Ad:Option Addr):Prop:=
 ps.length≤9223372036854775807∧d.length≤9223372036854775807∧Xc w (fun b=>b < B) (Z5 Zk ps) Ap∧Xc w (fun b=>b < B) (Z5 Dd d) Ad
theorem Ud.below {w w':World} {B:Nat} (hb:Below B w w') {ps:List Cb} {d:List Wg} {Ap Ad:Option Addr} (h:Ud w B ps d Ap Ad):Ud w' B ps d Ap Ad:=
 ⟨h.1,h.2.1,Xc.below hb h.2.2.1,Xc.below hb h.2.2.2⟩
theorem Zx4 {w:World} {B:Nat} {l:List Um} {A:Option Addr} {q:Nat} {nm tn:ByteArray} {tl tm:Nat} {ps:List Cb} {ds:List Wg} (h:Xc w (fun b=>b < B) (Z5 Ze l) A) (hx:l[q]? = some ⟨nm,ps,tn,tl,tm,ds⟩) :
  ∃ b p Ap kp Ad kd,A=some ⟨b,p,none⟩∧b < B∧(w.cell? ⟨b,p+q*6,none⟩=some (.string nm)∧w.cell? ⟨b,p+q*6+1,none⟩=some (.slice Ap ps.length kp)∧w.cell? ⟨b,p+q*6+2,none⟩=some (.string tn)∧w.cell? ⟨b,p+q*6+3,none⟩=some (.int .i64 (tl:Int))∧w.cell? ⟨b,p+q*6+4,none⟩=some (.int .i64 (tm:Int))∧w.cell? ⟨b,p+q*6+5,none⟩=some (.slice Ad ds.length kd))∧Ud w B ps ds Ap Ad:=by
 obtain ⟨b,p,cs,e,hb,hc,h1⟩:=L0 6 (fun _=>rfl) h hx;simp only [Ze,TS,TP] at h1;obtain ⟨c0,_,rfl,⟨rfl,_⟩,c1,_,rfl,⟨Ap,kp,rfl,hpl,hP⟩,c2,_,rfl,⟨rfl,_⟩,c3,_,rfl,⟨rfl,_⟩,c4,_,rfl,⟨rfl,_⟩,c5,_,rfl,⟨Ad,kd,rfl,hdl,hD⟩,rfl⟩:=h1;rw [Zl] at hpl hdl;rw [Zl,Zl] at hc;exact ⟨b,p,Ap,kp,Ad,kd,e,hb,⟨hc 0 _ rfl,hc 1 _ rfl,hc 2 _ rfl,hc 3 _ rfl,hc 4 _ rfl,hc 5 _ rfl⟩,hpl,hdl,hP,hD⟩
theorem Ya7 (nm tn:ByteArray) (tl tm:Nat) (ps:List Cb) (ds:List Wg) (Ap Ap' Ad Ad':Option Addr) (kp kp' kd kd':Nat) (w:World) (B:Nat) (hB:B≤w.heap.size) (h1:Ud w B ps ds Ap Ad) (h2:Ud w B ps ds Ap' Ad') :
  Calls Tryz.prog 37 #[.agg #[.string nm,.slice Ap ps.length kp,.string tn,.int .i64 (tl:Int),.int .i64 (tm:Int),.slice Ad ds.length kd],.agg #[.string nm,.slice Ap' ps.length kp',.string tn,.int .i64 (tl:Int),.int .i64 (tm:Int),.slice Ad' ds.length kd']] w fun e w'=>e=.returned (.bool true)∧Below w.heap.size w w':=by
 have S1:=Hd h1;have S2:=Hd h2;have HB0:=Hd hB;clear h1 h2 hB;have eA:(nm.toList == nm.toList)=true:=by simp
 have eN:(tn.toList == tn.toList)=true:=by simp
 go_enter Tryz.func37,Tryz.ntmps37
 have hW0:=Hd (BK6.start w (.string nm) (.slice Ap ps.length kp) (.string tn) (.int .i64 (tl:Int)) (.int .i64 (tm:Int)) (.slice Ad ds.length kd) (.string nm) (.slice Ap' ps.length kp') (.string tn) (.int .i64 (tl:Int)) (.int .i64 (tm:Int)) (.slice Ad' ds.length kd') 73);go_wp2_with fail
 have hB1:=hW0.out.below;refine (Zqb ps Ap Ap' kp kp' _ B (Nat.le_trans HB0.out hB1.size) S1.out.1 (Ud.below (hB1.mono HB0.out) S1.out).2.2.1 (Ud.below (hB1.mono HB0.out) S2.out).2.2.1).mono ?_;rintro e w3 ⟨rfl,hb3⟩;have hW3:=Hd (BK6.next hW0.out hb3);clear hW0 hB1 hb3;have hc0:=hW3.out.cells;obtain ⟨g0,g1,g2,g3,g4,g5,f0,f1,f2,f3,f4,f5⟩:=hc0;have hB1:=hW3.out.below;go_wp2_with fail
 refine (Yft ds Ad Ad' kd kd' _ B (Nat.le_trans HB0.out hB1.size) S1.out.2.1 (Ud.below (hB1.mono HB0.out) S1.out).2.2.2 (Ud.below (hB1.mono HB0.out) S2.out).2.2.2).mono ?_;rintro e w4 ⟨rfl,hb4⟩;have hW4:=Hd (BK6.next hW3.out hb4).below;clear g0 g1 g2 g3 g4 g5 f0 f1 f2 f3 f4 f5 hW3 hB1 hb4;go_wp2_with fail
 go_ret
 exact ⟨rfl,hW4.out⟩
def Zqz (w:World) (s0 s1 s2 s3 s4 s5 r0 r1 r2 r3 r4 r5:Value) (b O:Nat) (c0 c1 c2 c3 c4 c5:Value) (b' O':Nat) (d0 d1 d2 d3 d4 d5:Value) (W:World):Prop:=
 (W.cell? ⟨b,O,none⟩=some c0∧W.cell? ⟨b,O+1,none⟩=some c1∧W.cell? ⟨b,O+2,none⟩=some c2∧W.cell? ⟨b,O+3,none⟩=some c3∧W.cell? ⟨b,O+4,none⟩=some c4∧W.cell? ⟨b,O+5,none⟩=some c5∧W.cell? ⟨b',O',none⟩=some d0∧W.cell? ⟨b',O'+1,none⟩=some d1∧W.cell? ⟨b',O'+2,none⟩=some d2∧W.cell? ⟨b',O'+3,none⟩=some d3∧W.cell? ⟨b',O'+4,none⟩=some d4∧W.cell? ⟨b',O'+5,none⟩=some d5)∧BK6 w w.heap.size (w.heap.size+1) s0 s1 s2 s3 s4 s5 r0 r1 r2 r3 r4 r5 W
theorem Zqz.next {w W:World} {s0 s1 s2 s3 s4 s5 r0 r1 r2 r3 r4 r5:Value} {b O:Nat} {c0 c1 c2 c3 c4 c5:Value} {b' O':Nat} {d0 d1 d2 d3 d4 d5:Value} {W':World} (h:Zqz w s0 s1 s2 s3 s4 s5 r0 r1 r2 r3 r4 r5 b O c0 c1 c2 c3 c4 c5 b' O' d0 d1 d2 d3 d4 d5 W) (hl:b < w.heap.size) (hl':b' < w.heap.size) (hb:Below W.heap.size W W'):Zqz w s0 s1 s2 s3 s4 s5 r0 r1 r2 r3 r4 r5 b O c0 c1 c2 c3 c4 c5 b' O' d0 d1 d2 d3 d4 d5 W':=by
 obtain ⟨⟨g0,g1,g2,g3,g4,g5,f0,f1,f2,f3,f4,f5⟩,hK⟩:=h;have g:=Nat.lt_of_lt_of_le hl hK.below.size;have g':=Nat.lt_of_lt_of_le hl' hK.below.size;exact ⟨⟨(hb.cell (p:=⟨b,_,none⟩) g).trans g0,(hb.cell (p:=⟨b,_,none⟩) g).trans g1,(hb.cell (p:=⟨b,_,none⟩) g).trans g2,(hb.cell (p:=⟨b,_,none⟩) g).trans g3,(hb.cell (p:=⟨b,_,none⟩) g).trans g4,(hb.cell (p:=⟨b,_,none⟩) g).trans g5,(hb.cell (p:=⟨b',_,none⟩) g').trans f0,(hb.cell (p:=⟨b',_,none⟩) g').trans f1,(hb.cell (p:=⟨b',_,none⟩) g').trans f2,(hb.cell (p:=⟨b',_,none⟩) g').trans f3,(hb.cell (p:=⟨b',_,none⟩) g').trans f4,(hb.cell (p:=⟨b',_,none⟩) g').trans f5⟩,hK.next hb⟩
theorem Zqz.written {w W:World} {s0 s1 s2 s3 s4 s5 r0 r1 r2 r3 r4 r5:Value} {b O:Nat} {c0 c1 c2 c3 c4 c5:Value} {b' O':Nat} {d0 d1 d2 d3 d4 d5:Value} (h:Zqz w s0 s1 s2 s3 s4 s5 r0 r1 r2 r3 r4 r5 b O c0 c1 c2 c3 c4 c5 b' O' d0 d1 d2 d3 d4 d5 W):W.cell? ⟨w.heap.size,3,none⟩=some s3∧W.cell? ⟨w.heap.size+1,3,none⟩=some r3∧W.cell? ⟨b,O,none⟩=some c0∧W.cell? ⟨b,O+1,none⟩=some c1∧W.cell? ⟨b,O+2,none⟩=some c2∧W.cell? ⟨b,O+3,none⟩=some c3∧W.cell? ⟨b,O+4,none⟩=some c4∧W.cell? ⟨b,O+5,none⟩=some c5∧W.cell? ⟨b',O',none⟩=some d0∧W.cell? ⟨b',O'+1,none⟩=some d1∧W.cell? ⟨b',O'+2,none⟩=some d2∧W.cell? ⟨b',O'+3,none⟩=some d3∧W.cell? ⟨b',O'+4,none⟩=some d4∧W.cell? ⟨b',O'+5,none⟩=some d5∧Zqz w s0 s1 s2 s3 s4 s5 r0 r1 r2 r3 r4 r5 b O c0 c1 c2 c3 c4 c5 b' O' d0 d1 d2 d3 d4 d5 W:=by
 have h':=h;obtain ⟨⟨g0,g1,g2,g3,g4,g5,f0,f1,f2,f3,f4,f5⟩,hK⟩:=h;obtain ⟨x0,x1,x2,x3,x4,x5,y0,y1,y2,y3,y4,y5⟩:=hK.cells;exact ⟨x3,y3,g0,g1,g2,g3,g4,g5,f0,f1,f2,f3,f4,f5,h'⟩
def In (w:World) (B:Nat) (fs:List ByteArray) (fl:List Um) (qs:List ByteArray) (ps:List Cb) (Af Al Aq Ap:Option Addr):Prop:=
 (fs.length≤9223372036854775807∧fl.length≤9223372036854775807∧qs.length≤9223372036854775807∧ps.length≤9223372036854775807)∧Xc w (fun b=>b < B) (Z5 Zd fs) Af∧Xc w (fun b=>b < B) (Z5 Ze fl) Al∧Xc w (fun b=>b < B) (Z5 Zd qs) Aq∧Xc w (fun b=>b < B) (Z5 Zk ps) Ap
theorem In.below {w w':World} {B:Nat} (hb:Below B w w') {fs:List ByteArray} {fl:List Um} {qs:List ByteArray} {ps:List Cb} {Af Al Aq Ap:Option Addr} (h:In w B fs fl qs ps Af Al Aq Ap):In w' B fs fl qs ps Af Al Aq Ap:=
 ⟨h.1,Xc.below hb h.2.1,Xc.below hb h.2.2.1,Xc.below hb h.2.2.2.1,Xc.below hb h.2.2.2.2⟩
theorem Ykh {w:World} {B:Nat} {l:List Ih} {A:Option Addr} {q:Nat} {k:Int} {nm:ByteArray} {fs:List ByteArray} {fl:List Um} {qs:List ByteArray} {ps:List Cb} (h:Xc w (fun b=>b < B) (Z5 Z9 l) A) (hx:l[q]? = some ⟨k,nm,fs,fl,qs,ps⟩) :
  ∃ b p Af kf Al kl Aq kq Ap kp,A=some ⟨b,p,none⟩∧b < B∧(w.cell? ⟨b,p+q*6,none⟩=some (.int .i64 k)∧w.cell? ⟨b,p+q*6+1,none⟩=some (.string nm)∧w.cell? ⟨b,p+q*6+2,none⟩=some (.slice Af fs.length kf)∧w.cell? ⟨b,p+q*6+3,none⟩=some (.slice Al fl.length kl)∧w.cell? ⟨b,p+q*6+4,none⟩=some (.slice Aq qs.length kq)∧w.cell? ⟨b,p+q*6+5,none⟩=some (.slice Ap ps.length kp))∧In w B fs fl qs ps Af Al Aq Ap:=by
 obtain ⟨b,p,cs,e,hb,hc,h1⟩:=L0 6 (fun _=>rfl) h hx;simp only [Z9,TS,TP] at h1;obtain ⟨c0,_,rfl,⟨rfl,_⟩,c1,_,rfl,⟨rfl,_⟩,c2,_,rfl,⟨Af,kf,rfl,hfl,hF⟩,c3,_,rfl,⟨Al,kl,rfl,hll,hL⟩,c4,_,rfl,⟨Aq,kq,rfl,hql,hQ⟩,c5,_,rfl,⟨Ap,kp,rfl,hpl,hP⟩,rfl⟩:=h1;rw [Zl] at hfl hll hql hpl;rw [Zl,Zl,Zl,Zl] at hc;exact ⟨b,p,Af,kf,Al,kl,Aq,kq,Ap,kp,e,hb,⟨hc 0 _ rfl,hc 1 _ rfl,hc 2 _ rfl,hc 3 _ rfl,hc 4 _ rfl,hc 5 _ rfl⟩,⟨hfl,hll,hql,hpl⟩,hF,hL,hQ,hP⟩
theorem Yhk (k:Int) (nm:ByteArray) (fs:List ByteArray) (fl:List Um) (qs:List ByteArray) (ps:List Cb) (Af Af' Al Al' Aq Aq' Ap Ap':Option Addr) (kf kf' kl kl' kq kq' kp kp':Nat) (w:World) (B:Nat) (hB:B≤w.heap.size) (h1:In w B fs fl qs ps Af Al Aq Ap) (h2:In w B fs fl qs ps Af' Al' Aq' Ap') :
  Calls Tryz.prog 18 #[.agg #[.int .i64 k,.string nm,.slice Af fs.length kf,.slice Al fl.length kl,.slice Aq qs.length kq,.slice Ap ps.length kp],.agg #[.int .i64 k,.string nm,.slice Af' fs.length kf',.slice Al' fl.length kl',.slice Aq' qs.length kq',.slice Ap' ps.length kp']] w fun e w'=>e=.returned (.bool true)∧Below w.heap.size w w':=by
 have S1:=Hd h1;have S2:=Hd h2;have R1:=Hd h1.2.2.1;have R2:=Hd h2.2.2.1;have hfl:=h1.1.2.1;have HB0:=Hd hB;clear h1 h2 hB;have eK:(k != k)=false:=by simp
 have eN:(nm.toList != nm.toList)=false:=by simp
 have eL:((fl.length:Int) != (fl.length:Int))=false:=by simp
 go_enter Tryz.func18,Tryz.ntmps18
 have hW0:=Hd (BK6.start w (.int .i64 k) (.string nm) (.slice Af fs.length kf) (.slice Al fl.length kl) (.slice Aq qs.length kq) (.slice Ap ps.length kp) (.int .i64 k) (.string nm) (.slice Af' fs.length kf') (.slice Al' fl.length kl') (.slice Aq' qs.length kq') (.slice Ap' ps.length kp') 35);go_wp2_with fail
 have hB1:=hW0.out.below;refine (Zql fs Af Af' kf kf' _ B (Nat.le_trans HB0.out hB1.size) S1.out.1.1 (In.below (hB1.mono HB0.out) S1.out).2.1 (In.below (hB1.mono HB0.out) S2.out).2.1).mono ?_;rintro e w1 ⟨rfl,hb3⟩;have hW1:=Hd (BK6.next hW0.out hb3);clear hW0 hB1 hb3;have hc0:=hW1.out.cells;obtain ⟨g0,g1,g2,g3,g4,g5,f0,f1,f2,f3,f4,f5⟩:=hc0;go_wp2_with fail
 have hB1:=hW1.out.below;refine (Zql qs Aq Aq' kq kq' _ B (Nat.le_trans HB0.out hB1.size) S1.out.1.2.2.1 (In.below (hB1.mono HB0.out) S1.out).2.2.2.1 (In.below (hB1.mono HB0.out) S2.out).2.2.2.1).mono ?_;rintro e w2 ⟨rfl,hb3⟩;have hW2:=Hd (BK6.next hW1.out hb3);clear hW1 hB1 hb3 g0 g1 g2 g3 g4 g5 f0 f1 f2 f3 f4 f5;have hc0:=hW2.out.cells;obtain ⟨g0,g1,g2,g3,g4,g5,f0,f1,f2,f3,f4,f5⟩:=hc0;go_wp2_with fail
 have hB1:=hW2.out.below;refine (Zqb ps Ap Ap' kp kp' _ B (Nat.le_trans HB0.out hB1.size) S1.out.1.2.2.2 (In.below (hB1.mono HB0.out) S1.out).2.2.2.2 (In.below (hB1.mono HB0.out) S2.out).2.2.2.2).mono ?_;rintro e w3 ⟨rfl,hb3⟩;have hW4:=Hd (BK6.next hW2.out hb3);clear hW2 hB1 hb3 g0 g1 g2 g3 g4 g5 f0 f1 f2 f3 f4 f5;have hc0:=hW4.out.cells;obtain ⟨g0,g1,g2,g3,g4,g5,f0,f1,f2,f3,f4,f5⟩:=hc0;go_wp2_with fail
 clear g0 g1 g2 g3 g4 g5 f0 f1 f2 f3 f4 f5
 go_loopg [5] fl.length (fun g i wx=>∃ q:Nat,q+g=fl.length∧i=.int .i64 q∧BK6 w w.heap.size (w.heap.size+1) (.int .i64 k) (.string nm) (.slice Af fs.length kf) (.slice Al fl.length kl) (.slice Aq qs.length kq) (.slice Ap ps.length kp) (.int .i64 k) (.string nm) (.slice Af' fs.length kf') (.slice Al' fl.length kl') (.slice Aq' qs.length kq') (.slice Ap' ps.length kp') wx)
 case atStart=>exact ⟨0,by omega,rfl,hW4.out⟩
 case round =>
  clear hW4;obtain ⟨q,hq,rfl,hb⟩:=hrel;have HK:=Hd hb;have HBB:=Hd hb.below;have hx1:w.heap.size < wr.heap.size:=hb.2.1;have hx2:w.heap.size+1 < wr.heap.size:=hb.2.2.1;obtain ⟨_,_,_,q0,_,_,_,_,_,q1,_,_⟩:=hb.cells;clear hb
  cases gk with
  | zero =>
    obtain rfl:q=fl.length:=by omega
    go_wp2_with fail
    go_ret
    exact ⟨rfl,HBB.out⟩
  | succ g =>
    clear q0 q1;have hqn:q < fl.length:=by omega
    have hqn':(q:Int) < (fl.length:Int):=by omega
    obtain ⟨⟨nx,px,tn,tl,tm,ds⟩,hv⟩:∃ x,fl[q]? = some x:=⟨_,List.getElem?_eq_getElem hqn⟩;obtain ⟨b,o,Ax,kx,Ad,kd,rfl,hblt,⟨g0,g1,g2,g3,g4,g5⟩,V1⟩:=Zx4 (Xc.below (HBB.out.mono HB0.out) R1.out) hv;obtain ⟨b',o',Ax',kx',Ad',kd',rfl,hblt',⟨f0,f1,f2,f3,f4,f5⟩,V2⟩:=Zx4 (Xc.below (HBB.out.mono HB0.out) R2.out) hv;have HBX:=Nat.le_trans HB0.out HBB.out.size;have HBW:Hid (b < w.heap.size):=Hd (Nat.lt_of_lt_of_le hblt HB0.out);have HBW':Hid (b' < w.heap.size):=Hd (Nat.lt_of_lt_of_le hblt' HB0.out);have hE0:Zqz w (.int .i64 k) (.string nm) (.slice Af fs.length kf) (.slice (some ⟨b,o,none⟩) fl.length kl) (.slice Aq qs.length kq) (.slice Ap ps.length kp) (.int .i64 k) (.string nm) (.slice Af' fs.length kf') (.slice (some ⟨b',o',none⟩) fl.length kl') (.slice Aq' qs.length kq') (.slice Ap' ps.length kp') b (o+q*6) (.string nx) (.slice Ax px.length kx) (.string tn) (.int .i64 (tl:Int)) (.int .i64 (tm:Int)) (.slice Ad ds.length kd) b' (o'+q*6) (.string nx) (.slice Ax' px.length kx') (.string tn) (.int .i64 (tl:Int)) (.int .i64 (tm:Int)) (.slice Ad' ds.length kd') wr:=⟨⟨g0,g1,g2,g3,g4,g5,f0,f1,f2,f3,f4,f5⟩,HK.out⟩;have C:=fun (wx:World) (hx:Below wr.heap.size wr wx)=>Hd (Ya7 nx tn tl tm px ds Ax Ax' Ad Ad' kx kx' kd kd' wx B (Nat.le_trans HBX hx.size) (Ud.below (hx.mono HBX) V1) (Ud.below (hx.mono HBX) V2));have hp:=hE0.written;clear V1 V2 hv hblt hblt' HBX g0 g1 g2 g3 g4 g5 f0 f1 f2 f3 f4 f5;obtain ⟨p0,p1,g0,g1,g2,g3,g4,g5,f0,f1,f2,f3,f4,f5,_⟩:=hp;go_wp2_with fail
    go_region_held3 (fun w'=>w'.cell? ⟨w.heap.size,3,none⟩=some (.slice (some ⟨b,o,none⟩) fl.length kl)∧w'.cell? ⟨w.heap.size+1,3,none⟩=some (.slice (some ⟨b',o',none⟩) fl.length kl')∧w'.cell? ⟨b,o+q*6,none⟩=some (.string nx)∧w'.cell? ⟨b,o+q*6+1,none⟩=some (.slice Ax px.length kx)∧w'.cell? ⟨b,o+q*6+2,none⟩=some (.string tn)∧w'.cell? ⟨b,o+q*6+3,none⟩=some (.int .i64 (tl:Int))∧w'.cell? ⟨b,o+q*6+4,none⟩=some (.int .i64 (tm:Int))∧w'.cell? ⟨b,o+q*6+5,none⟩=some (.slice Ad ds.length kd)∧w'.cell? ⟨b',o'+q*6,none⟩=some (.string nx)∧w'.cell? ⟨b',o'+q*6+1,none⟩=some (.slice Ax' px.length kx')∧w'.cell? ⟨b',o'+q*6+2,none⟩=some (.string tn)∧w'.cell? ⟨b',o'+q*6+3,none⟩=some (.int .i64 (tl:Int))∧w'.cell? ⟨b',o'+q*6+4,none⟩=some (.int .i64 (tm:Int))∧w'.cell? ⟨b',o'+q*6+5,none⟩=some (.slice Ad' ds.length kd')∧Zqz w (.int .i64 k) (.string nm) (.slice Af fs.length kf) (.slice (some ⟨b,o,none⟩) fl.length kl) (.slice Aq qs.length kq) (.slice Ap ps.length kp) (.int .i64 k) (.string nm) (.slice Af' fs.length kf') (.slice (some ⟨b',o',none⟩) fl.length kl') (.slice Aq' qs.length kq') (.slice Ap' ps.length kp') b (o+q*6) (.string nx) (.slice Ax px.length kx) (.string tn) (.int .i64 (tl:Int)) (.int .i64 (tm:Int)) (.slice Ad ds.length kd) b' (o'+q*6) (.string nx) (.slice Ax' px.length kx') (.string tn) (.int .i64 (tl:Int)) (.int .i64 (tm:Int)) (.slice Ad' ds.length kd') w')
     (first
      | exact Zqz.written (Zqz.next hE0 HBW.out HBW'.out (Below.drew (Below.refl _ _)))
      | exact Zqz.written ((Zqz.next hE0 HBW.out HBW'.out (Below.drew (Below.refl _ _))).next HBW.out HBW'.out (by assumption))
      | exact Zqz.written (Zqz.next hE0 HBW.out HBW'.out (by assumption))
      | exact Zqz.written (Zqz.next (by assumption) HBW.out HBW'.out (by assumption))
      | go_keep)
     ((first|(go_at_call 37;refine (C _ (by first|exact Below.drew (Below.refl _ _)|exact Below.refl _ _|assumption)).out.mono ?_;rintro e w' ⟨rfl,hb⟩)))
    all_goals
     have HKM:Zqz w (.int .i64 k) (.string nm) (.slice Af fs.length kf) (.slice (some ⟨b,o,none⟩) fl.length kl) (.slice Aq qs.length kq) (.slice Ap ps.length kp) (.int .i64 k) (.string nm) (.slice Af' fs.length kf') (.slice (some ⟨b',o',none⟩) fl.length kl') (.slice Aq' qs.length kq') (.slice Ap' ps.length kp') b (o+q*6) (.string nx) (.slice Ax px.length kx) (.string tn) (.int .i64 (tl:Int)) (.int .i64 (tm:Int)) (.slice Ad ds.length kd) b' (o'+q*6) (.string nx) (.slice Ax' px.length kx') (.string tn) (.int .i64 (tl:Int)) (.int .i64 (tm:Int)) (.slice Ad' ds.length kd') w':=And.right (And.right (And.right (And.right (And.right (And.right (And.right (And.right (And.right (And.right (And.right (And.right (And.right (And.right (by assumption))))))))))))));have HKB:=Hd HKM.2;clear HKM hE0 C p0 p1 g0 g1 g2 g3 g4 g5 f0 f1 f2 f3 f4 f5;go_wp2_with fail
     go_roundg g
     case measure=>omega
     case rel=>exact ⟨q+1,by omega,by go_num,HKB.out⟩
def BK3 (w:World) (x y:Nat) (c0 c1 c2 d0 d1 d2:Value) (W:World):Prop:=
 (W.cell? ⟨x,0,none⟩=some c0∧W.cell? ⟨x,1,none⟩=some c1∧W.cell? ⟨x,2,none⟩=some c2∧W.cell? ⟨y,0,none⟩=some d0∧W.cell? ⟨y,1,none⟩=some d1∧W.cell? ⟨y,2,none⟩=some d2)∧x < W.heap.size∧y < W.heap.size∧Below w.heap.size w W
theorem BK3.cells {w W:World} {x y:Nat} {c0 c1 c2 d0 d1 d2:Value} (h:BK3 w x y c0 c1 c2 d0 d1 d2 W):W.cell? ⟨x,0,none⟩=some c0∧W.cell? ⟨x,1,none⟩=some c1∧W.cell? ⟨x,2,none⟩=some c2∧W.cell? ⟨y,0,none⟩=some d0∧W.cell? ⟨y,1,none⟩=some d1∧W.cell? ⟨y,2,none⟩=some d2:=h.1
theorem BK3.below {w W:World} {x y:Nat} {c0 c1 c2 d0 d1 d2:Value} (h:BK3 w x y c0 c1 c2 d0 d1 d2 W):Below w.heap.size w W:=h.2.2.2
theorem BK3.next {w W W':World} {x y:Nat} {c0 c1 c2 d0 d1 d2:Value} (h:BK3 w x y c0 c1 c2 d0 d1 d2 W) (hb:Below W.heap.size W W'):BK3 w x y c0 c1 c2 d0 d1 d2 W':=by
 obtain ⟨⟨g0,g1,g2,f0,f1,f2⟩,hx,hy,hB⟩:=h;exact ⟨⟨(hb.cell (p:=⟨x,_,none⟩) hx).trans g0,(hb.cell (p:=⟨x,_,none⟩) hx).trans g1,(hb.cell (p:=⟨x,_,none⟩) hx).trans g2,(hb.cell (p:=⟨y,_,none⟩) hy).trans f0,(hb.cell (p:=⟨y,_,none⟩) hy).trans f1,(hb.cell (p:=⟨y,_,none⟩) hy).trans f2⟩,Nat.lt_of_lt_of_le hx hb.size,Nat.lt_of_lt_of_le hy hb.size,hB.trans (hb.mono hB.size)⟩
theorem BK3.start (w:World) (c0 c1 c2 d0 d1 d2:Value) (t:TypeId):BK3 w (w.heap.size) (w.heap.size+1) c0 c1 c2 d0 d1 d2 ((w.alloc (.cells #[c0,c1,c2] t)).alloc (.cells #[d0,d1,d2] t)):=by
 have k0:((w.alloc (.cells #[c0,c1,c2] t)).alloc (.cells #[d0,d1,d2] t)).heap[w.heap.size]? = some (.cells #[c0,c1,c2] t):=by
  show ((w.alloc (.cells #[c0,c1,c2] t)).alloc (.cells #[d0,d1,d2] t)).heap[w.heap.size]? = _;rw [Below.heap_alloc _ _ _ (by simp)]
  show (w.heap.push _)[w.heap.size]? = _;simp
 have k1:((w.alloc (.cells #[c0,c1,c2] t)).alloc (.cells #[d0,d1,d2] t)).heap[w.heap.size+1]? = some (.cells #[d0,d1,d2] t):=by
  show ((w.heap.push _).push _)[w.heap.size+1]? = _;rw [Array.getElem?_push,if_pos (by simp)]
 refine ⟨⟨?_,?_,?_,?_,?_,?_⟩,?_,?_,((Below.refl _ _).alloc (Nat.le_refl _) _).alloc (by simp) _⟩
 all_goals first|(simp only [World.cell?];first|(rw [k0];rfl)|(rw [k1];rfl))|(show _ < ((w.heap.push _).push _).size;simp;done)|(show _ < ((w.heap.push _).push _).size;simp;omega)
def Te (w:World) (s0 s1 s2 r0 r1 r2:Value) (b O:Nat) (c0 c1 c2 c3 c4 c5:Value) (b' O':Nat) (d0 d1 d2 d3 d4 d5:Value) (W:World):Prop:=
 (W.cell? ⟨b,O,none⟩=some c0∧W.cell? ⟨b,O+1,none⟩=some c1∧W.cell? ⟨b,O+2,none⟩=some c2∧W.cell? ⟨b,O+3,none⟩=some c3∧W.cell? ⟨b,O+4,none⟩=some c4∧W.cell? ⟨b,O+5,none⟩=some c5∧W.cell? ⟨b',O',none⟩=some d0∧W.cell? ⟨b',O'+1,none⟩=some d1∧W.cell? ⟨b',O'+2,none⟩=some d2∧W.cell? ⟨b',O'+3,none⟩=some d3∧W.cell? ⟨b',O'+4,none⟩=some d4∧W.cell? ⟨b',O'+5,none⟩=some d5)∧BK3 w w.heap.size (w.heap.size+1) s0 s1 s2 r0 r1 r2 W
theorem Te.next {w W:World} {s0 s1 s2 r0 r1 r2:Value} {b O:Nat} {c0 c1 c2 c3 c4 c5:Value} {b' O':Nat} {d0 d1 d2 d3 d4 d5:Value} {W':World} (h:Te w s0 s1 s2 r0 r1 r2 b O c0 c1 c2 c3 c4 c5 b' O' d0 d1 d2 d3 d4 d5 W) (hl:b < w.heap.size) (hl':b' < w.heap.size) (hb:Below W.heap.size W W'):Te w s0 s1 s2 r0 r1 r2 b O c0 c1 c2 c3 c4 c5 b' O' d0 d1 d2 d3 d4 d5 W':=by
 obtain ⟨⟨g0,g1,g2,g3,g4,g5,f0,f1,f2,f3,f4,f5⟩,hK⟩:=h;have g:=Nat.lt_of_lt_of_le hl hK.below.size;have g':=Nat.lt_of_lt_of_le hl' hK.below.size;exact ⟨⟨(hb.cell (p:=⟨b,_,none⟩) g).trans g0,(hb.cell (p:=⟨b,_,none⟩) g).trans g1,(hb.cell (p:=⟨b,_,none⟩) g).trans g2,(hb.cell (p:=⟨b,_,none⟩) g).trans g3,(hb.cell (p:=⟨b,_,none⟩) g).trans g4,(hb.cell (p:=⟨b,_,none⟩) g).trans g5,(hb.cell (p:=⟨b',_,none⟩) g').trans f0,(hb.cell (p:=⟨b',_,none⟩) g').trans f1,(hb.cell (p:=⟨b',_,none⟩) g').trans f2,(hb.cell (p:=⟨b',_,none⟩) g').trans f3,(hb.cell (p:=⟨b',_,none⟩) g').trans f4,(hb.cell (p:=⟨b',_,none⟩) g').trans f5⟩,hK.next hb⟩
theorem Te.written {w W:World} {s0 s1 s2 r0 r1 r2:Value} {b O:Nat} {c0 c1 c2 c3 c4 c5:Value} {b' O':Nat} {d0 d1 d2 d3 d4 d5:Value} (h:Te w s0 s1 s2 r0 r1 r2 b O c0 c1 c2 c3 c4 c5 b' O' d0 d1 d2 d3 d4 d5 W):W.cell? ⟨w.heap.size,0,none⟩=some s0∧W.cell? ⟨w.heap.size+1,0,none⟩=some r0∧W.cell? ⟨b,O,none⟩=some c0∧W.cell? ⟨b,O+1,none⟩=some c1∧W.cell? ⟨b,O+2,none⟩=some c2∧W.cell? ⟨b,O+3,none⟩=some c3∧W.cell? ⟨b,O+4,none⟩=some c4∧W.cell? ⟨b,O+5,none⟩=some c5∧W.cell? ⟨b',O',none⟩=some d0∧W.cell? ⟨b',O'+1,none⟩=some d1∧W.cell? ⟨b',O'+2,none⟩=some d2∧W.cell? ⟨b',O'+3,none⟩=some d3∧W.cell? ⟨b',O'+4,none⟩=some d4∧W.cell? ⟨b',O'+5,none⟩=some d5∧Te w s0 s1 s2 r0 r1 r2 b O c0 c1 c2 c3 c4 c5 b' O' d0 d1 d2 d3 d4 d5 W:=by
 have h':=h;obtain ⟨⟨g0,g1,g2,g3,g4,g5,f0,f1,f2,f3,f4,f5⟩,hK⟩:=h;obtain ⟨x0,x1,x2,y0,y1,y2⟩:=hK.cells;exact ⟨x0,y0,g0,g1,g2,g3,g4,g5,f0,f1,f2,f3,f4,f5,h'⟩
theorem Yjv (ss:List Ih) (sq sm:ByteArray) (As As':Option Addr) (ks ks':Nat) (w:World) (B:Nat) (hB:B≤w.heap.size) (hl:ss.length≤9223372036854775807) (h1:Xc w (fun b=>b < B) (Z5 Z9 ss) As) (h2:Xc w (fun b=>b < B) (Z5 Z9 ss) As') :
  Calls Tryz.prog 7 #[.agg #[.slice As ss.length ks,.string sq,.string sm],.agg #[.slice As' ss.length ks',.string sq,.string sm]] w fun e w'=>e=.returned (.bool true)∧Below w.heap.size w w':=by
 have R1:=Hd h1;have R2:=Hd h2;have HB0:=Hd hB;clear h1 h2 hB;have eQ:(sq.toList != sq.toList)=false:=by simp
 have eM:(sm.toList != sm.toList)=false:=by simp
 have eL:((ss.length:Int) != (ss.length:Int))=false:=by simp
 go_enter Tryz.func7,Tryz.ntmps7
 have hW4:=Hd (BK3.start w (.slice As ss.length ks) (.string sq) (.string sm) (.slice As' ss.length ks') (.string sq) (.string sm) 25);go_wp2_with fail
 go_loopg [5] ss.length (fun g i wx=>∃ q:Nat,q+g=ss.length∧i=.int .i64 q∧BK3 w w.heap.size (w.heap.size+1) (.slice As ss.length ks) (.string sq) (.string sm) (.slice As' ss.length ks') (.string sq) (.string sm) wx)
 case atStart=>exact ⟨0,by omega,rfl,hW4.out⟩
 case round =>
  clear hW4;obtain ⟨q,hq,rfl,hb⟩:=hrel;have HK:=Hd hb;have HBB:=Hd hb.below;have hx1:w.heap.size < wr.heap.size:=hb.2.1;have hx2:w.heap.size+1 < wr.heap.size:=hb.2.2.1;obtain ⟨q0,_,_,q1,_,_⟩:=hb.cells;clear hb
  cases gk with
  | zero =>
    obtain rfl:q=ss.length:=by omega
    go_wp2_with fail
    go_ret
    exact ⟨rfl,HBB.out⟩
  | succ g =>
    clear q0 q1;have hqn:q < ss.length:=by omega
    have hqn':(q:Int) < (ss.length:Int):=by omega
    obtain ⟨⟨k,nm,fs,fl,qs,ps⟩,hv⟩:∃ x,ss[q]? = some x:=⟨_,List.getElem?_eq_getElem hqn⟩;obtain ⟨b,o,Af,kf,Al,kl,Aq,kq,Ap,kp,rfl,hblt,⟨g0,g1,g2,g3,g4,g5⟩,V1⟩:=Ykh (Xc.below (HBB.out.mono HB0.out) R1.out) hv;obtain ⟨b',o',Af',kf',Al',kl',Aq',kq',Ap',kp',rfl,hblt',⟨f0,f1,f2,f3,f4,f5⟩,V2⟩:=Ykh (Xc.below (HBB.out.mono HB0.out) R2.out) hv;have HBX:=Nat.le_trans HB0.out HBB.out.size;have HBW:Hid (b < w.heap.size):=Hd (Nat.lt_of_lt_of_le hblt HB0.out);have HBW':Hid (b' < w.heap.size):=Hd (Nat.lt_of_lt_of_le hblt' HB0.out);have hE0:Te w (.slice (some ⟨b,o,none⟩) ss.length ks) (.string sq) (.string sm) (.slice (some ⟨b',o',none⟩) ss.length ks') (.string sq) (.string sm) b (o+q*6) (.int .i64 k) (.string nm) (.slice Af fs.length kf) (.slice Al fl.length kl) (.slice Aq qs.length kq) (.slice Ap ps.length kp) b' (o'+q*6) (.int .i64 k) (.string nm) (.slice Af' fs.length kf') (.slice Al' fl.length kl') (.slice Aq' qs.length kq') (.slice Ap' ps.length kp') wr:=⟨⟨g0,g1,g2,g3,g4,g5,f0,f1,f2,f3,f4,f5⟩,HK.out⟩;have C:=fun (wx:World) (hx:Below wr.heap.size wr wx)=>Hd (Yhk k nm fs fl qs ps Af Af' Al Al' Aq Aq' Ap Ap' kf kf' kl kl' kq kq' kp kp' wx B (Nat.le_trans HBX hx.size) (In.below (hx.mono HBX) V1) (In.below (hx.mono HBX) V2));have hp:=hE0.written;clear V1 V2 hv hblt hblt' HBX g0 g1 g2 g3 g4 g5 f0 f1 f2 f3 f4 f5;obtain ⟨p0,p1,g0,g1,g2,g3,g4,g5,f0,f1,f2,f3,f4,f5,_⟩:=hp;go_wp2_with fail
    go_region_held3 (fun w'=>w'.cell? ⟨w.heap.size,0,none⟩=some (.slice (some ⟨b,o,none⟩) ss.length ks)∧w'.cell? ⟨w.heap.size+1,0,none⟩=some (.slice (some ⟨b',o',none⟩) ss.length ks')∧w'.cell? ⟨b,o+q*6,none⟩=some (.int .i64 k)∧w'.cell? ⟨b,o+q*6+1,none⟩=some (.string nm)∧w'.cell? ⟨b,o+q*6+2,none⟩=some (.slice Af fs.length kf)∧w'.cell? ⟨b,o+q*6+3,none⟩=some (.slice Al fl.length kl)∧w'.cell? ⟨b,o+q*6+4,none⟩=some (.slice Aq qs.length kq)∧w'.cell? ⟨b,o+q*6+5,none⟩=some (.slice Ap ps.length kp)∧w'.cell? ⟨b',o'+q*6,none⟩=some (.int .i64 k)∧w'.cell? ⟨b',o'+q*6+1,none⟩=some (.string nm)∧w'.cell? ⟨b',o'+q*6+2,none⟩=some (.slice Af' fs.length kf')∧w'.cell? ⟨b',o'+q*6+3,none⟩=some (.slice Al' fl.length kl')∧w'.cell? ⟨b',o'+q*6+4,none⟩=some (.slice Aq' qs.length kq')∧w'.cell? ⟨b',o'+q*6+5,none⟩=some (.slice Ap' ps.length kp')∧Te w (.slice (some ⟨b,o,none⟩) ss.length ks) (.string sq) (.string sm) (.slice (some ⟨b',o',none⟩) ss.length ks') (.string sq) (.string sm) b (o+q*6) (.int .i64 k) (.string nm) (.slice Af fs.length kf) (.slice Al fl.length kl) (.slice Aq qs.length kq) (.slice Ap ps.length kp) b' (o'+q*6) (.int .i64 k) (.string nm) (.slice Af' fs.length kf') (.slice Al' fl.length kl') (.slice Aq' qs.length kq') (.slice Ap' ps.length kp') w')
     (first
      | exact Te.written (Te.next hE0 HBW.out HBW'.out (Below.drew (Below.refl _ _)))
      | exact Te.written ((Te.next hE0 HBW.out HBW'.out (Below.drew (Below.refl _ _))).next HBW.out HBW'.out (by assumption))
      | exact Te.written (Te.next hE0 HBW.out HBW'.out (by assumption))
      | exact Te.written (Te.next (by assumption) HBW.out HBW'.out (by assumption))
      | go_keep)
     ((first|(go_at_call 18;refine (C _ (by first|exact Below.drew (Below.refl _ _)|exact Below.refl _ _|assumption)).out.mono ?_;rintro e w' ⟨rfl,hb⟩)))
    all_goals
     have HKM:Te w (.slice (some ⟨b,o,none⟩) ss.length ks) (.string sq) (.string sm) (.slice (some ⟨b',o',none⟩) ss.length ks') (.string sq) (.string sm) b (o+q*6) (.int .i64 k) (.string nm) (.slice Af fs.length kf) (.slice Al fl.length kl) (.slice Aq qs.length kq) (.slice Ap ps.length kp) b' (o'+q*6) (.int .i64 k) (.string nm) (.slice Af' fs.length kf') (.slice Al' fl.length kl') (.slice Aq' qs.length kq') (.slice Ap' ps.length kp') w':=And.right (And.right (And.right (And.right (And.right (And.right (And.right (And.right (And.right (And.right (And.right (And.right (And.right (And.right (by assumption))))))))))))));have HKB:=Hd HKM.2;clear HKM hE0 C p0 p1 g0 g1 g2 g3 g4 g5 f0 f1 f2 f3 f4 f5;go_wp2_with fail
     go_roundg g
     case measure=>omega
     case rel=>exact ⟨q+1,by omega,by go_num,HKB.out⟩
end Go.Proofs.YtkmloefbkgcbkaaGreatDoor
