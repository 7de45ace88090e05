/- The walk of the law ParseReads. -/
import Derived.Test.YtpkmbhnikilihaaGreatDoorQr27
set_option maxRecDepth 100000
set_option maxHeartbeats 8000000
namespace Go.Proofs.YtpkmbhnikilihaaGreatDoor.LPReads
open Go.RowKit
theorem Yhv {w W:World} {P:Nat→Prop} {D:Vs} {A0 A1:Option Addr} {n0 k0 n1 k1:Nat} (h:TS w P (J1 D) [.slice A0 n0 k0,.slice A1 n1 k1]) (hP:∀ b,P b→b < w.heap.size) (hb:Below w.heap.size w W) :
  n0=D.ops.length∧n1=D.frags.length∧Zye W W.heap.size D A0 A1:=by
 simp only [J1,TS,TP] at h
 obtain ⟨c0,_,e0,⟨Ao,ko,rfl,hol,hO⟩,c1,_,rfl,⟨Af,kf,rfl,hfl,hF⟩,rfl⟩:=h
 rw [Zt] at hol hfl e0
 rw [Zt] at e0
 injection e0 with e0 e1
 injection e0 with q1 q2 q3
 injection e1 with e1 _
 injection e1 with p1 p2 p3
 subst q1 p1
 exact ⟨q2,p2,hol,hfl,Xp.keep (fun b h=>⟨Nat.lt_of_lt_of_le (hP b h) hb.size,hb.block b (hP b h)⟩) _ _ hO,Xp.keep (fun b h=>⟨Nat.lt_of_lt_of_le (hP b h) hb.size,hb.block b (hP b h)⟩) _ _ hF⟩
theorem Zkc (W:World) (A0 A1:Option Addr):Zye W W.heap.size ⟨[],[]⟩ A0 A1:=by
 refine ⟨Nat.zero_le _,Nat.zero_le _,?_,?_⟩
 · show Xp W _ (Z5 Ya []) A0
   unfold Z5 Xp;trivial
 · show Xp W _ (Z5 Ur []) A1
   unfold Z5 Xp;trivial
theorem Ygz {wa wa' wb wb' W:World} {R:Except Int Vs} {x x':Int} {A0 A1 A0' A1':Option Addr} {n0 k0 n1 k1 n0' k0' n1' k1':Nat} (h1:Res J1 [.slice none 0 0,.slice none 0 0] wa wa' R x [.slice A0 n0 k0,.slice A1 n1 k1]) (h2:Res J1 [.slice none 0 0,.slice none 0 0] wb wb' R x' [.slice A0' n0' k0',.slice A1' n1' k1']) (b1:Below wa'.heap.size wa' W) (b2:Below wb'.heap.size wb' W) :
   x=x'∧∃ D:Vs,n0=D.ops.length∧n1=D.frags.length∧n0'=D.ops.length∧n1'=D.frags.length∧Zye W W.heap.size D A0 A1∧Zye W W.heap.size D A0' A1':=by
 cases R with
 | error y =>
   obtain ⟨rfl,_,e⟩:=h1
   obtain ⟨rfl,_,e'⟩:=h2
   injection e with e0 e1
   injection e0 with _ q2 _
   injection e1 with e1 _
   injection e1 with _ q3 _
   injection e' with e0 e1
   injection e0 with _ q4 _
   injection e1 with e1 _
   injection e1 with _ q5 _
   exact ⟨rfl,⟨[],[]⟩,q2,q3,q4,q5,Zkc _ _ _,Zkc _ _ _⟩
 | ok D =>
   obtain ⟨rfl,h1⟩:=h1
   obtain ⟨rfl,h2⟩:=h2
   obtain ⟨q2,q3,d1⟩:=Yhv h1 (fun b h=>h.2) b1
   obtain ⟨q4,q5,d2⟩:=Yhv h2 (fun b h=>h.2) b2
   exact ⟨rfl,D,q2,q3,q4,q5,d1,d2⟩
theorem walk (s:ByteArray) (w:World) (hz:s.size≤9223372036854775807) (h3:Jw w) (h5:Uj w):Calls Tryz.prog 3 #[.string s] w fun e w'=>e=.returned (.bool true)∧Below w.heap.size w w':=by
 have HA:=fun wx (hb:Below w.heap.size w wx)=>Hd (Yc7 wx (h3.below hb) (h5.below hb))
 by_cases hs:8202 < s.size
 · have t1:decide ((8202:Int) < (s.size:Int))=true:=by simp;omega
   clear h3 h5
   go_enter Tryz.func3,Tryz.ntmps3
   go_wp2_with fail
   refine (HA _ (Below.refl _ _)).out.mono ?_
   rintro e w1 ⟨rfl,hb1⟩
   have B1:=Hd hb1
   clear hb1
   go_wp2_with fail
   go_ret
   exact ⟨rfl,B1.out⟩
 · have t1:decide ((8202:Int) < (s.size:Int))=false:=by simp;omega
   have hs':s.size≤9000:=by omega
   have HP:=fun wx (hb:Below w.heap.size w wx)=>Hd (Au s wx hs' (h3.below hb) (h5.below hb))
   have HR:=fun wx=>Hd (Yay s wx hs')
   obtain ⟨R,hR⟩:∃ R,Um Ll s.data.toList=R:=⟨_,rfl⟩
   rw [hR] at HP HR
   clear h3 h5 hs hs' hR
   go_enter Tryz.func3,Tryz.ntmps3
   go_wp2_with fail
   refine (HP _ (Below.refl _ _)).out.mono ?_
   rintro e w3 ⟨A0,n0,k0,A1,n1,k1,x,rfl,hres,hb3⟩
   have RS1:=Hd hres
   have B3:=Hd hb3
   have B3a:=Hd (B3.out.alloc B3.out.size (.cells #[.slice A0 n0 k0,.slice A1 n1 k1] 26))
   have Y:=Hd (heap_alloc_last w3 (.cells #[.slice A0 n0 k0,.slice A1 n1 k1] 26))
   have L3:=Hd (blw w3 (.cells #[.slice A0 n0 k0,.slice A1 n1 k1] 26))
   have hSZ:=Hd (show (w3.alloc (.cells #[.slice A0 n0 k0,.slice A1 n1 k1] 26)).heap.size=w3.heap.size+1 by simp)
   clear hres hb3
   go_wp2_with fail
   refine (HR _).out.mono ?_
   rintro e w4 ⟨A0',n0',k0',A1',n1',k1',x',rfl,hres,hb4⟩
   have hlt:w3.heap.size < w4.heap.size:=by have:=hb4.size;have:=hSZ.out;omega
   have Z:=Hd ((hb4.block w3.heap.size (by rw [hSZ.out];omega)).trans Y.out)
   have c0:w4.cell? ⟨w3.heap.size,0,none⟩=some (.slice A0 n0 k0):=by simp only [World.cell?];rw [Z.out];rfl
   have c1:w4.cell? ⟨w3.heap.size,1,none⟩=some (.slice A1 n1 k1):=by simp only [World.cell?];rw [Z.out];rfl
   have B4:=Hd (B3a.out.trans (hb4.mono B3a.out.size))
   have B4a:=Hd (B4.out.alloc B4.out.size (.cells #[.slice A0' n0' k0',.slice A1' n1' k1'] 26))
   have L4:=blw w4 (.cells #[.slice A0' n0' k0',.slice A1' n1' k1'] 26)
   obtain ⟨rfl,D,rfl,rfl,rfl,rfl,D1,D2⟩:=Ygz RS1.out hres ((L3.out.trans (hb4.mono L3.out.size)).trans (L4.mono (Nat.le_trans L3.out.size hb4.size))) L4
   have HD:=Hd (Yes D A0 A0' A1 A1' k0 k0' k1 k1' _ _ (Nat.le_refl _) D1 D2)
   have eX:(x == x)=true:=by simp
   clear hres hb4 L4 D1 D2
   go_wp2_with fail
   refine HD.out.mono ?_
   rintro e w5 ⟨rfl,hb5⟩
   have B5:=Hd (B4a.out.trans (hb5.mono B4a.out.size))
   clear hb5
   go_wp2_with fail
   refine (HA _ B5.out).out.mono ?_
   rintro e w6 ⟨rfl,hb6⟩
   have B6:=Hd (B5.out.trans (hb6.mono B5.out.size))
   clear hb6
   go_wp2_with fail
   go_ret
   exact ⟨rfl,B6.out⟩
end Go.Proofs.YtpkmbhnikilihaaGreatDoor.LPReads
