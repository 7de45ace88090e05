/- The walk of the law SdlReads. -/
import Derived.Test.YtkmloefbkgcbkaaGreatDoorSr49
import Derived.Test.YtkmloefbkgcbkaaGreatDoorSr50
set_option maxRecDepth 100000
set_option maxHeartbeats 8000000
namespace Go.Proofs.YtkmloefbkgcbkaaGreatDoor.LSReads
open Go.RowKit
theorem Ykn {w W:World} {P:Nat→Prop} {D:Ub} {A0:Option Addr} {n0 k0:Nat} {sq sm:ByteArray} (h:TS w P (Xw D) [.slice A0 n0 k0,.string sq,.string sm]) (hP:∀ b,P b→b < w.heap.size) (hb:Below w.heap.size w W) :
  n0=D.defs.length∧sq=D.query∧sm=D.mutation∧D.defs.length≤9223372036854775807∧Xc W (fun b=>b < W.heap.size) (Z5 Z9 D.defs) A0:=by
 simp only [Xw,TS,TP] at h;obtain ⟨c0,_,e0,⟨Ao,ko,rfl,hol,hO⟩,c1,_,rfl,⟨rfl,_⟩,c2,_,rfl,⟨rfl,_⟩,rfl⟩:=h;rw [Zl] at hol e0;injection e0 with e0 e1
 injection e0 with q1 q2 q3
 injection e1 with e1 e2
 injection e2 with e2 _
 injection e1 with e1
 injection e2 with e2
 subst q1;exact ⟨q2,e1,e2,hol,Xc.keep (fun b h=>⟨Nat.lt_of_lt_of_le (hP b h) hb.size,hb.block b (hP b h)⟩) _ _ hO⟩
theorem Yhy {wa wa' wb wb' W:World} {R:Except Int Ub} {x x':Int} {A0 A0':Option Addr} {n0 k0 n0' k0':Nat} {sq sm sq' sm':ByteArray} (h1:Res Xw [.slice none 0 0,.string ⟨#[]⟩,.string ⟨#[]⟩] wa wa' R x [.slice A0 n0 k0,.string sq,.string sm]) (h2:Res Xw [.slice none 0 0,.string ⟨#[]⟩,.string ⟨#[]⟩] wb wb' R x' [.slice A0' n0' k0',.string sq',.string sm']) (b1:Below wa'.heap.size wa' W) (b2:Below wb'.heap.size wb' W) :
   x=x'∧∃ ss:List Ih,n0=ss.length∧n0'=ss.length∧sq=sq'∧sm=sm'∧ss.length≤9223372036854775807∧Xc W (fun b=>b < W.heap.size) (Z5 Z9 ss) A0∧Xc W (fun b=>b < W.heap.size) (Z5 Z9 ss) A0':=by
 cases R with
 | error y =>
   obtain ⟨rfl,_,e⟩:=h1;obtain ⟨rfl,_,e'⟩:=h2;injection e with e0 e1
   injection e0 with _ q2 _
   injection e1 with e1 e2
   injection e2 with e2 _
   injection e1 with e1
   injection e2 with e2
   injection e' with f0 f1
   injection f0 with _ p2 _
   injection f1 with f1 f2
   injection f2 with f2 _
   injection f1 with f1
   injection f2 with f2
   subst e1 e2 f1 f2;refine ⟨rfl,[],q2,p2,rfl,rfl,Nat.zero_le _,?_,?_⟩<;>(show Xc W _ (Z5 Z9 []) _;unfold Z5 Xc;trivial)
 | ok D =>
   obtain ⟨rfl,h1⟩:=h1;obtain ⟨rfl,h2⟩:=h2;obtain ⟨q2,e1,e2,hl,d1⟩:=Ykn h1 (fun b h=>h.2) b1;obtain ⟨p2,f1,f2,_,d2⟩:=Ykn h2 (fun b h=>h.2) b2;exact ⟨rfl,D.defs,q2,p2,e1.trans f1.symm,e2.trans f2.symm,hl,d1,d2⟩
theorem walk (s:ByteArray) (w:World) (hz:s.size≤9223372036854775807) (h3:Ue w) (h5:Ve w):Calls Tryz.prog 3 #[.string s] w fun e w'=>e=.returned (.bool true)∧Below w.heap.size w w':=by
 have HA:=fun wx (hb:Below w.heap.size w wx)=>Hd (Zvo wx (h3.below hb) (h5.below hb))
 by_cases hs:8202 < s.size
 · have t1:decide ((8202:Int) < (s.size:Int))=true:=by simp;omega
   clear h3 h5
   go_enter Tryz.func3,Tryz.ntmps3
   go_wp2_with fail
   refine (HA _ (Below.refl _ _)).out.mono ?_;rintro e w1 ⟨rfl,hb1⟩;have B1:=Hd hb1;clear hb1;go_wp2_with fail
   go_ret
   exact ⟨rfl,B1.out⟩
 · have t1:decide ((8202:Int) < (s.size:Int))=false:=by simp;omega
   have hs':s.size≤9000:=by omega
   have HP:=fun wx (hb:Below w.heap.size w wx)=>Hd (Bo s wx hs' (h3.below hb) (h5.below hb));have HR:=fun wx=>Hd (Zzx s wx hs');obtain ⟨R,hR⟩:∃ R,F7 Ld s.data.toList=R:=⟨_,rfl⟩;rw [hR] at HP HR;clear h3 h5 hs hs' hR
   go_enter Tryz.func3,Tryz.ntmps3
   go_wp2_with fail
   refine (HP _ (Below.refl _ _)).out.mono ?_;rintro e w3 ⟨A0,n0,k0,sq,sm,x,rfl,hres,hb3⟩;have RS1:=Hd hres;have B3:=Hd hb3;have B3a:=Hd (B3.out.alloc B3.out.size (.cells #[.slice A0 n0 k0,.string sq,.string sm] 25));have Y:=Hd (heap_alloc_last w3 (.cells #[.slice A0 n0 k0,.string sq,.string sm] 25));have L3:=Hd (blw w3 (.cells #[.slice A0 n0 k0,.string sq,.string sm] 25));have hSZ:=Hd (show (w3.alloc (.cells #[.slice A0 n0 k0,.string sq,.string sm] 25)).heap.size=w3.heap.size+1 by simp);clear hres hb3;go_wp2_with fail
   refine (HR _).out.mono ?_;rintro e w4 ⟨A0',n0',k0',sq',sm',x',rfl,hres,hb4⟩;have hlt:w3.heap.size < w4.heap.size:=by have:=hb4.size;have:=hSZ.out;omega
   have Z:=Hd ((hb4.block w3.heap.size (by rw [hSZ.out];omega)).trans Y.out);have c0:w4.cell? ⟨w3.heap.size,0,none⟩=some (.slice A0 n0 k0):=by simp only [World.cell?];rw [Z.out];rfl
   have c1:w4.cell? ⟨w3.heap.size,1,none⟩=some (.string sq):=by simp only [World.cell?];rw [Z.out];rfl
   have c2:w4.cell? ⟨w3.heap.size,2,none⟩=some (.string sm):=by simp only [World.cell?];rw [Z.out];rfl
   have B4:=Hd (B3a.out.trans (hb4.mono B3a.out.size));have B4a:=Hd (B4.out.alloc B4.out.size (.cells #[.slice A0' n0' k0',.string sq',.string sm'] 25));have L4:=blw w4 (.cells #[.slice A0' n0' k0',.string sq',.string sm'] 25);obtain ⟨rfl,ss,rfl,rfl,rfl,rfl,hl,D1,D2⟩:=Yhy RS1.out hres ((L3.out.trans (hb4.mono L3.out.size)).trans (L4.mono (Nat.le_trans L3.out.size hb4.size))) L4;have HD:=Hd (Yjv ss sq sm A0 A0' k0 k0' _ _ (Nat.le_refl _) hl D1 D2);have eX:(x == x)=true:=by simp
   clear hres hb4 L4 D1 D2 hl;go_wp2_with fail
   refine HD.out.mono ?_;rintro e w5 ⟨rfl,hb5⟩;have B5:=Hd (B4a.out.trans (hb5.mono B4a.out.size));clear hb5;go_wp2_with fail
   refine (HA _ B5.out).out.mono ?_;rintro e w6 ⟨rfl,hb6⟩;have B6:=Hd (B5.out.trans (hb6.mono B5.out.size));clear hb6;go_wp2_with fail
   go_ret
   exact ⟨rfl,B6.out⟩
end Go.Proofs.YtkmloefbkgcbkaaGreatDoor.LSReads
