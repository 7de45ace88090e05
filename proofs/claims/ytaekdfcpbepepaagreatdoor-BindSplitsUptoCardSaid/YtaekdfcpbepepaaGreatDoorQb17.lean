/- The walks of value.sound and value.named. (gen_sound.py wrote the first.) -/
import Derived.Test.YtaekdfcpbepepaaGreatDoorQb16
set_option maxRecDepth 100000
set_option maxHeartbeats 8000000
namespace Go.Proofs.YtaekdfcpbepepaaGreatDoor
open Go.RowKit
theorem len_zero (n:Nat):((n:Int) == 0)=(n == 0):=by
 cases n<;>rfl
theorem sound_any (k n:Int) (s:ByteArray) (l:VL) (m:VM) (c0 c1 c2 c3 c4:Value) (w:World) (B:Nat) (hv:VAt w B (.mk k n s l m) c0 c1 c2 c3 c4) (hs:s.size≤1100000) (hw:Laid5 w) :
   Calls Tryz.prog 199 #[.agg #[c0,c1,c2,c3,c4]] w fun e w'=>e=.returned (.bool (soundB k n s.data.toList l.len m.len))∧Below w.heap.size w w':=by
 unfold VAt at hv
 obtain ⟨rfl,rfl,rfl,_,⟨A,c,rfl,hl,hL⟩,A',c',rfl,hm,hM⟩:=hv
 have hG:=fun wx (hx:Laid5 wx)=>good_any s wx hs hx.1
 have hN:=fun wx=>name_any s wx (by omega)
 have hE:=fun wx=>venum_any s wx hs
 have hD:=fun wx (hx:Laid5 wx)=>vnumber_any s wx hs hx
 have hb0:Below w.heap.size w (w.alloc (.cells #[.int .i64 k,.int .i64 n,.string s,.slice A l.len c,.slice A' m.len c'] 58)):=(Below.refl _ _).alloc (Nat.le_refl _) _
 have HB:=Hd hb0
 have HW:=Hd (hw.below hb0)
 obtain ⟨b1,h1⟩:∃ b,(n == 0)=b:=⟨_,rfl⟩
 obtain ⟨b2,h2⟩:∃ b,s.toList.isEmpty=b:=⟨_,rfl⟩
 obtain ⟨b3,h3⟩:∃ b,((l.len:Int) == 0)=b:=⟨_,rfl⟩
 obtain ⟨b4,h4⟩:∃ b,((m.len:Int) == 0)=b:=⟨_,rfl⟩
 obtain ⟨b5,h5⟩:∃ b,(n == 1)=b:=⟨_,rfl⟩
 obtain ⟨b6,h6⟩:∃ b,numB s.data.toList=b:=⟨_,rfl⟩
 obtain ⟨b7,h7⟩:∃ b,goodB s.data.toList=b:=⟨_,rfl⟩
 obtain ⟨b8,h8⟩:∃ b,enumB s.data.toList=b:=⟨_,rfl⟩
 obtain ⟨b9,h9⟩:∃ b,nameB s.data.toList=b:=⟨_,rfl⟩
 have g2:s.data.toList.isEmpty=b2:=by rw [← Lib.toList_data];exact h2
 have g3:=(len_zero l.len).symm.trans h3
 have g4:=(len_zero m.len).symm.trans h4
 rw [h6] at hD
 rw [h7] at hG
 rw [h8] at hE
 rw [h9] at hN
 have G:=fun wx hx=>Hd (hG wx hx)
 have N:=fun wx=>Hd (hN wx)
 have E:=fun wx=>Hd (hE wx)
 have D:=fun wx hx=>Hd (hD wx hx)
 clear hw hL hM hb0 hG hN hE hD
 by_cases k0:k=0
 · subst k0
   have hr:Hid (soundB 0 n s.data.toList l.len m.len=(b1 && b2 && b3 && b4)):=Hd (by rw [soundB,if_pos rfl,h1,g2,g3,g4])
   clear g2 g3 g4 h5 h6 h7 h8 h9
   cases b3 with
   | false =>
     cases b1 with
     | false =>
       go_enter Tryz.func199,Tryz.ntmps199
       go_wp2_with fail
       go_ret
       exact ⟨ret_bool (by rw [hr.out];simp),HB.out⟩
     | true =>
       cases b2 with
       | false =>
         go_enter Tryz.func199,Tryz.ntmps199
         go_wp2_with fail
         go_ret
         exact ⟨ret_bool (by rw [hr.out];simp),HB.out⟩
       | true =>
         go_enter Tryz.func199,Tryz.ntmps199
         go_wp2_with fail
         go_ret
         exact ⟨ret_bool (by rw [hr.out];simp),HB.out⟩
   | true =>
     cases b1 with
     | false =>
       go_enter Tryz.func199,Tryz.ntmps199
       go_wp2_with fail
       go_ret
       exact ⟨ret_bool (by rw [hr.out];simp),HB.out⟩
     | true =>
       cases b2 with
       | false =>
         go_enter Tryz.func199,Tryz.ntmps199
         go_wp2_with fail
         go_ret
         exact ⟨ret_bool (by rw [hr.out];simp),HB.out⟩
       | true =>
         go_enter Tryz.func199,Tryz.ntmps199
         go_wp2_with fail
         go_ret
         exact ⟨ret_bool (by rw [hr.out];simp),HB.out⟩
 by_cases k1:k=1
 · subst k1
   have hr:Hid (soundB 1 n s.data.toList l.len m.len=((b1 || b5) && b2 && b3 && b4)):=Hd (by rw [soundB,if_neg (by omega),if_pos rfl,h1,h5,g2,g3,g4])
   clear g2 g3 g4 h6 h7 h8 h9
   cases b3 with
   | false =>
     cases b1 with
     | false =>
       cases b5 with
       | false =>
         go_enter Tryz.func199,Tryz.ntmps199
         go_wp2_with fail
         go_ret
         exact ⟨ret_bool (by rw [hr.out];simp),HB.out⟩
       | true =>
         cases b2 with
         | false =>
           go_enter Tryz.func199,Tryz.ntmps199
           go_wp2_with fail
           go_ret
           exact ⟨ret_bool (by rw [hr.out];simp),HB.out⟩
         | true =>
           go_enter Tryz.func199,Tryz.ntmps199
           go_wp2_with fail
           go_ret
           exact ⟨ret_bool (by rw [hr.out];simp),HB.out⟩
     | true =>
       cases b2 with
       | false =>
         go_enter Tryz.func199,Tryz.ntmps199
         go_wp2_with fail
         go_ret
         exact ⟨ret_bool (by rw [hr.out];simp),HB.out⟩
       | true =>
         go_enter Tryz.func199,Tryz.ntmps199
         go_wp2_with fail
         go_ret
         exact ⟨ret_bool (by rw [hr.out];simp),HB.out⟩
   | true =>
     cases b1 with
     | false =>
       cases b5 with
       | false =>
         go_enter Tryz.func199,Tryz.ntmps199
         go_wp2_with fail
         go_ret
         exact ⟨ret_bool (by rw [hr.out];simp),HB.out⟩
       | true =>
         cases b2 with
         | false =>
           go_enter Tryz.func199,Tryz.ntmps199
           go_wp2_with fail
           go_ret
           exact ⟨ret_bool (by rw [hr.out];simp),HB.out⟩
         | true =>
           go_enter Tryz.func199,Tryz.ntmps199
           go_wp2_with fail
           go_ret
           exact ⟨ret_bool (by rw [hr.out];simp),HB.out⟩
     | true =>
       cases b2 with
       | false =>
         go_enter Tryz.func199,Tryz.ntmps199
         go_wp2_with fail
         go_ret
         exact ⟨ret_bool (by rw [hr.out];simp),HB.out⟩
       | true =>
         go_enter Tryz.func199,Tryz.ntmps199
         go_wp2_with fail
         go_ret
         exact ⟨ret_bool (by rw [hr.out];simp),HB.out⟩
 by_cases k2:k=2
 · subst k2
   have hr:Hid (soundB 2 n s.data.toList l.len m.len=(b2 && b3 && b4)):=Hd (by rw [soundB,if_neg (by omega),if_neg (by omega),if_pos rfl,g2,g3,g4])
   clear g2 g3 g4 h1 h5 h6 h7 h8 h9
   cases b3 with
   | false =>
     cases b2 with
     | false =>
       go_enter Tryz.func199,Tryz.ntmps199
       go_wp2_with fail
       go_ret
       exact ⟨ret_bool (by rw [hr.out];simp),HB.out⟩
     | true =>
       go_enter Tryz.func199,Tryz.ntmps199
       go_wp2_with fail
       go_ret
       exact ⟨ret_bool (by rw [hr.out];simp),HB.out⟩
   | true =>
     cases b2 with
     | false =>
       go_enter Tryz.func199,Tryz.ntmps199
       go_wp2_with fail
       go_ret
       exact ⟨ret_bool (by rw [hr.out];simp),HB.out⟩
     | true =>
       go_enter Tryz.func199,Tryz.ntmps199
       go_wp2_with fail
       go_ret
       exact ⟨ret_bool (by rw [hr.out];simp),HB.out⟩
 by_cases k3:k=3
 · subst k3
   have hr:Hid (soundB 3 n s.data.toList l.len m.len=(b1 && b6 && b3 && b4)):=Hd (by rw [soundB,if_neg (by omega),if_neg (by omega),if_neg (by omega),if_pos rfl,h1,h6,g3,g4])
   clear g2 g3 g4 h2 h5 h7 h8 h9
   cases b3 with
   | false =>
     cases b1 with
     | false =>
       go_enter Tryz.func199,Tryz.ntmps199
       go_wp2_with (go_at_call 227;refine (D _ HW.out).out.mono ?_;rintro e w1 ⟨rfl,hb1⟩)
       go_ret
       exact ⟨ret_bool (by rw [hr.out];simp),by first|exact HB.out|exact HB.out.trans (hb1.mono HB.out.size)⟩
     | true =>
       cases b6 with
       | false =>
         go_enter Tryz.func199,Tryz.ntmps199
         go_wp2_with (go_at_call 227;refine (D _ HW.out).out.mono ?_;rintro e w1 ⟨rfl,hb1⟩)
         go_ret
         exact ⟨ret_bool (by rw [hr.out];simp),by first|exact HB.out|exact HB.out.trans (hb1.mono HB.out.size)⟩
       | true =>
         go_enter Tryz.func199,Tryz.ntmps199
         go_wp2_with (go_at_call 227;refine (D _ HW.out).out.mono ?_;rintro e w1 ⟨rfl,hb1⟩)
         go_ret
         exact ⟨ret_bool (by rw [hr.out];simp),by first|exact HB.out|exact HB.out.trans (hb1.mono HB.out.size)⟩
   | true =>
     cases b1 with
     | false =>
       go_enter Tryz.func199,Tryz.ntmps199
       go_wp2_with (go_at_call 227;refine (D _ HW.out).out.mono ?_;rintro e w1 ⟨rfl,hb1⟩)
       go_ret
       exact ⟨ret_bool (by rw [hr.out];simp),by first|exact HB.out|exact HB.out.trans (hb1.mono HB.out.size)⟩
     | true =>
       cases b6 with
       | false =>
         go_enter Tryz.func199,Tryz.ntmps199
         go_wp2_with (go_at_call 227;refine (D _ HW.out).out.mono ?_;rintro e w1 ⟨rfl,hb1⟩)
         go_ret
         exact ⟨ret_bool (by rw [hr.out];simp),by first|exact HB.out|exact HB.out.trans (hb1.mono HB.out.size)⟩
       | true =>
         go_enter Tryz.func199,Tryz.ntmps199
         go_wp2_with (go_at_call 227;refine (D _ HW.out).out.mono ?_;rintro e w1 ⟨rfl,hb1⟩)
         go_ret
         exact ⟨ret_bool (by rw [hr.out];simp),by first|exact HB.out|exact HB.out.trans (hb1.mono HB.out.size)⟩
 by_cases k4:k=4
 · subst k4
   have hr:Hid (soundB 4 n s.data.toList l.len m.len=(b1 && b7 && b3 && b4)):=Hd (by rw [soundB,if_neg (by omega),if_neg (by omega),if_neg (by omega),if_neg (by omega),if_pos rfl,h1,h7,g3,g4])
   clear g2 g3 g4 h2 h5 h6 h8 h9
   cases b3 with
   | false =>
     cases b1 with
     | false =>
       go_enter Tryz.func199,Tryz.ntmps199
       go_wp2_with (go_at_call 177;refine (G _ HW.out).out.mono ?_;rintro e w1 ⟨rfl,hb1⟩)
       go_ret
       exact ⟨ret_bool (by rw [hr.out];simp),by first|exact HB.out|exact HB.out.trans (hb1.mono HB.out.size)⟩
     | true =>
       cases b7 with
       | false =>
         go_enter Tryz.func199,Tryz.ntmps199
         go_wp2_with (go_at_call 177;refine (G _ HW.out).out.mono ?_;rintro e w1 ⟨rfl,hb1⟩)
         go_ret
         exact ⟨ret_bool (by rw [hr.out];simp),by first|exact HB.out|exact HB.out.trans (hb1.mono HB.out.size)⟩
       | true =>
         go_enter Tryz.func199,Tryz.ntmps199
         go_wp2_with (go_at_call 177;refine (G _ HW.out).out.mono ?_;rintro e w1 ⟨rfl,hb1⟩)
         go_ret
         exact ⟨ret_bool (by rw [hr.out];simp),by first|exact HB.out|exact HB.out.trans (hb1.mono HB.out.size)⟩
   | true =>
     cases b1 with
     | false =>
       go_enter Tryz.func199,Tryz.ntmps199
       go_wp2_with (go_at_call 177;refine (G _ HW.out).out.mono ?_;rintro e w1 ⟨rfl,hb1⟩)
       go_ret
       exact ⟨ret_bool (by rw [hr.out];simp),by first|exact HB.out|exact HB.out.trans (hb1.mono HB.out.size)⟩
     | true =>
       cases b7 with
       | false =>
         go_enter Tryz.func199,Tryz.ntmps199
         go_wp2_with (go_at_call 177;refine (G _ HW.out).out.mono ?_;rintro e w1 ⟨rfl,hb1⟩)
         go_ret
         exact ⟨ret_bool (by rw [hr.out];simp),by first|exact HB.out|exact HB.out.trans (hb1.mono HB.out.size)⟩
       | true =>
         go_enter Tryz.func199,Tryz.ntmps199
         go_wp2_with (go_at_call 177;refine (G _ HW.out).out.mono ?_;rintro e w1 ⟨rfl,hb1⟩)
         go_ret
         exact ⟨ret_bool (by rw [hr.out];simp),by first|exact HB.out|exact HB.out.trans (hb1.mono HB.out.size)⟩
 by_cases k5:k=5
 · subst k5
   have hr:Hid (soundB 5 n s.data.toList l.len m.len=(b1 && b8 && b3 && b4)):=Hd (by rw [soundB,if_neg (by omega),if_neg (by omega),if_neg (by omega),if_neg (by omega),if_neg (by omega),if_pos rfl,h1,h8,g3,g4])
   clear g2 g3 g4 h2 h5 h6 h7 h9
   cases b3 with
   | false =>
     cases b1 with
     | false =>
       go_enter Tryz.func199,Tryz.ntmps199
       go_wp2_with (go_at_call 228;refine (E _).out.mono ?_;rintro e w1 ⟨rfl,hb1⟩)
       go_ret
       exact ⟨ret_bool (by rw [hr.out];simp),by first|exact HB.out|exact HB.out.trans (hb1.mono HB.out.size)⟩
     | true =>
       cases b8 with
       | false =>
         go_enter Tryz.func199,Tryz.ntmps199
         go_wp2_with (go_at_call 228;refine (E _).out.mono ?_;rintro e w1 ⟨rfl,hb1⟩)
         go_ret
         exact ⟨ret_bool (by rw [hr.out];simp),by first|exact HB.out|exact HB.out.trans (hb1.mono HB.out.size)⟩
       | true =>
         go_enter Tryz.func199,Tryz.ntmps199
         go_wp2_with (go_at_call 228;refine (E _).out.mono ?_;rintro e w1 ⟨rfl,hb1⟩)
         go_ret
         exact ⟨ret_bool (by rw [hr.out];simp),by first|exact HB.out|exact HB.out.trans (hb1.mono HB.out.size)⟩
   | true =>
     cases b1 with
     | false =>
       go_enter Tryz.func199,Tryz.ntmps199
       go_wp2_with (go_at_call 228;refine (E _).out.mono ?_;rintro e w1 ⟨rfl,hb1⟩)
       go_ret
       exact ⟨ret_bool (by rw [hr.out];simp),by first|exact HB.out|exact HB.out.trans (hb1.mono HB.out.size)⟩
     | true =>
       cases b8 with
       | false =>
         go_enter Tryz.func199,Tryz.ntmps199
         go_wp2_with (go_at_call 228;refine (E _).out.mono ?_;rintro e w1 ⟨rfl,hb1⟩)
         go_ret
         exact ⟨ret_bool (by rw [hr.out];simp),by first|exact HB.out|exact HB.out.trans (hb1.mono HB.out.size)⟩
       | true =>
         go_enter Tryz.func199,Tryz.ntmps199
         go_wp2_with (go_at_call 228;refine (E _).out.mono ?_;rintro e w1 ⟨rfl,hb1⟩)
         go_ret
         exact ⟨ret_bool (by rw [hr.out];simp),by first|exact HB.out|exact HB.out.trans (hb1.mono HB.out.size)⟩
 by_cases k6:k=6
 · subst k6
   have hr:Hid (soundB 6 n s.data.toList l.len m.len=(b1 && b2 && b4)):=Hd (by rw [soundB,if_neg (by omega),if_neg (by omega),if_neg (by omega),if_neg (by omega),if_neg (by omega),if_neg (by omega),if_pos rfl,h1,g2,g4])
   clear g2 g3 g4 h5 h6 h7 h8 h9
   cases b3 with
   | false =>
     cases b1 with
     | false =>
       go_enter Tryz.func199,Tryz.ntmps199
       go_wp2_with fail
       go_ret
       exact ⟨ret_bool (by rw [hr.out];simp),HB.out⟩
     | true =>
       cases b2 with
       | false =>
         go_enter Tryz.func199,Tryz.ntmps199
         go_wp2_with fail
         go_ret
         exact ⟨ret_bool (by rw [hr.out];simp),HB.out⟩
       | true =>
         go_enter Tryz.func199,Tryz.ntmps199
         go_wp2_with fail
         go_ret
         exact ⟨ret_bool (by rw [hr.out];simp),HB.out⟩
   | true =>
     cases b1 with
     | false =>
       go_enter Tryz.func199,Tryz.ntmps199
       go_wp2_with fail
       go_ret
       exact ⟨ret_bool (by rw [hr.out];simp),HB.out⟩
     | true =>
       cases b2 with
       | false =>
         go_enter Tryz.func199,Tryz.ntmps199
         go_wp2_with fail
         go_ret
         exact ⟨ret_bool (by rw [hr.out];simp),HB.out⟩
       | true =>
         go_enter Tryz.func199,Tryz.ntmps199
         go_wp2_with fail
         go_ret
         exact ⟨ret_bool (by rw [hr.out];simp),HB.out⟩
 by_cases k7:k=7
 · subst k7
   have hr:Hid (soundB 7 n s.data.toList l.len m.len=(b1 && b2 && b3)):=Hd (by rw [soundB,if_neg (by omega),if_neg (by omega),if_neg (by omega),if_neg (by omega),if_neg (by omega),if_neg (by omega),if_neg (by omega),if_pos rfl,h1,g2,g3])
   clear g2 g3 g4 h5 h6 h7 h8 h9
   cases b3 with
   | false =>
     cases b1 with
     | false =>
       go_enter Tryz.func199,Tryz.ntmps199
       go_wp2_with fail
       go_ret
       exact ⟨ret_bool (by rw [hr.out];simp),HB.out⟩
     | true =>
       cases b2 with
       | false =>
         go_enter Tryz.func199,Tryz.ntmps199
         go_wp2_with fail
         go_ret
         exact ⟨ret_bool (by rw [hr.out];simp),HB.out⟩
       | true =>
         go_enter Tryz.func199,Tryz.ntmps199
         go_wp2_with fail
         go_ret
         exact ⟨ret_bool (by rw [hr.out];simp),HB.out⟩
   | true =>
     cases b1 with
     | false =>
       go_enter Tryz.func199,Tryz.ntmps199
       go_wp2_with fail
       go_ret
       exact ⟨ret_bool (by rw [hr.out];simp),HB.out⟩
     | true =>
       cases b2 with
       | false =>
         go_enter Tryz.func199,Tryz.ntmps199
         go_wp2_with fail
         go_ret
         exact ⟨ret_bool (by rw [hr.out];simp),HB.out⟩
       | true =>
         go_enter Tryz.func199,Tryz.ntmps199
         go_wp2_with fail
         go_ret
         exact ⟨ret_bool (by rw [hr.out];simp),HB.out⟩
 by_cases k8:k=8
 · subst k8
   have hr:Hid (soundB 8 n s.data.toList l.len m.len=(b1 && b9 && b3 && b4)):=Hd (by rw [soundB,if_neg (by omega),if_neg (by omega),if_neg (by omega),if_neg (by omega),if_neg (by omega),if_neg (by omega),if_neg (by omega),if_neg (by omega),if_pos rfl,h1,h9,g3,g4])
   clear g2 g3 g4 h2 h5 h6 h7 h8
   cases b3 with
   | false =>
     cases b1 with
     | false =>
       go_enter Tryz.func199,Tryz.ntmps199
       go_wp2_with (go_at_call 17;refine (N _).out.mono ?_;rintro e w1 ⟨rfl,rfl⟩)
       go_ret
       exact ⟨ret_bool (by rw [hr.out];simp),HB.out⟩
     | true =>
       cases b9 with
       | false =>
         go_enter Tryz.func199,Tryz.ntmps199
         go_wp2_with (go_at_call 17;refine (N _).out.mono ?_;rintro e w1 ⟨rfl,rfl⟩)
         go_ret
         exact ⟨ret_bool (by rw [hr.out];simp),HB.out⟩
       | true =>
         go_enter Tryz.func199,Tryz.ntmps199
         go_wp2_with (go_at_call 17;refine (N _).out.mono ?_;rintro e w1 ⟨rfl,rfl⟩)
         go_ret
         exact ⟨ret_bool (by rw [hr.out];simp),HB.out⟩
   | true =>
     cases b1 with
     | false =>
       go_enter Tryz.func199,Tryz.ntmps199
       go_wp2_with (go_at_call 17;refine (N _).out.mono ?_;rintro e w1 ⟨rfl,rfl⟩)
       go_ret
       exact ⟨ret_bool (by rw [hr.out];simp),HB.out⟩
     | true =>
       cases b9 with
       | false =>
         go_enter Tryz.func199,Tryz.ntmps199
         go_wp2_with (go_at_call 17;refine (N _).out.mono ?_;rintro e w1 ⟨rfl,rfl⟩)
         go_ret
         exact ⟨ret_bool (by rw [hr.out];simp),HB.out⟩
       | true =>
         go_enter Tryz.func199,Tryz.ntmps199
         go_wp2_with (go_at_call 17;refine (N _).out.mono ?_;rintro e w1 ⟨rfl,rfl⟩)
         go_ret
         exact ⟨ret_bool (by rw [hr.out];simp),HB.out⟩
 have hr:Hid (soundB k n s.data.toList l.len m.len=false):=Hd (by rw [soundB,if_neg k0,if_neg k1,if_neg k2,if_neg k3,if_neg k4,if_neg k5,if_neg k6,if_neg k7,if_neg k8])
 have e0:(k == 0)=false:=by simpa using k0
 have e1:(k == 1)=false:=by simpa using k1
 have e2:(k == 2)=false:=by simpa using k2
 have e3:(k == 3)=false:=by simpa using k3
 have e4:(k == 4)=false:=by simpa using k4
 have e5:(k == 5)=false:=by simpa using k5
 have e6:(k == 6)=false:=by simpa using k6
 have e7:(k == 7)=false:=by simpa using k7
 have e8:(k == 8)=false:=by simpa using k8
 clear g2 g3 g4 h1 h2 h5 h6 h7 h8 h9 k0 k1 k2 k3 k4 k5 k6 k7 k8
 cases b3
 all_goals
   go_enter Tryz.func199,Tryz.ntmps199
   go_wp2_with fail
   go_ret
   exact ⟨ret_bool (by rw [hr.out]),HB.out⟩
theorem check_two {p:List UInt8→Bool} {k n:Int} {s:ByteArray} {l:VL} {m:VM} {b1 b2:Bool} (h1:soundB k n s.data.toList l.len m.len=b1) (h2:namesB p m=b2):checkV p (.mk k n s l m)=(b1 && b2):=by
 rw [checkV,h1,h2]
theorem wpList_append_nil {P:Program} {w:World} {ops:Array Oper} {rest:List Oper} {o:Oper} {a:Act} {Q:Exit→Act→World→Prop} (hgd:o.guard=none) (s x:Operand) (t:TypeId)
  (ho:o.op=.call { callee:=.builtin .append,args:=#[s,x],argTypes:=#[t,t] })
  (base:Nat) (e:TypeId) (i:TypeInfo) (size:Nat) (ht:P.underlying t=some (.slice e)) (hi:P.info? e=some i)
  (v:Value) (n c:Nat) (xs:List Value) (hs:a.eval s=v) (hown:w.ownsRow base e size v n xs) (hx:a.eval x=.slice none 0 c)
  (h:wpList P ops Q rest (a.put o.dst v) w):wpList P ops Q (o :: rest) a w:=by
 refine wpList_plain hgd fun K hK=>?_
 have hrun:(Builtin.append_ #[t,t] o.type #[v,.slice none 0 c]).run P w=.ok v w:=by
  rcases hown.2 with ⟨rfl,rfl⟩|⟨g,cap,cur,rfl,_,_,hnc,_⟩
  · simp [Builtin.append_,run_underlying ht,sizeOf,typeInfo,hi,Builtin.lenOf,Builtin.firstCells]
  · simp [Builtin.append_,run_underlying ht,sizeOf,typeInfo,hi,Builtin.lenOf,Builtin.firstCells,hnc,storeCells]
 unfold Oper.wp
 simp [execOp,ho,resolve,invoke,builtin,hs,hx,hrun,Result.andThen]
 exact hK _ _ h
theorem RowV.none {w:World} {B:Nat} {l:VL} (h:RowV w B l none):l=.nil:=by
 cases l with
 | nil=>rfl
 | cons v t=>obtain ⟨_,_,_,_,_,_,_,hA,_⟩:=h 0 v rfl;cases hA
theorem RowV.one {w:World} {B b:Nat} {v:VT} {c0 c1 c2 c3 c4:Value} (hb:b < w.heap.size) (hf:Five w b 0 c0 c1 c2 c3 c4) (hv:VAt w B v c0 c1 c2 c3 c4):RowV w B (.cons v .nil) (some ⟨b,0,.none⟩):=fun j x hj=>by
 match j,hj with
 | 0,hj =>
   have:v=x:=by simpa [VL.get] using hj
   subst this
   exact ⟨b,0,c0,c1,c2,c3,c4,rfl,hb,by rw [Nat.zero_mul,Nat.add_zero];exact hf,hv⟩
 | j+1,hj=>simp [VL.get] at hj
theorem level_next {wo wi w4 w5:World} {B n:Nat} {V:Value} {xs:List Value} (hBo:B≤wo.heap.size) (hoi:Below wo.heap.size wo wi) (hi4:Below wi.heap.size wi w4) (hown:wi.ownsRow wo.heap.size 58 5 V n xs) (hg:w4.grownBy w5 V.ownBlock) :
  Below wo.heap.size wo w5∧Below B wi w5∧Below B w4 w5:=by
 have h1:=hoi.trans (hi4.mono hoi.size)
 have hr:∀ k,V.ownBlock=some k→wo.heap.size≤k:=fun k hk=>(hown.lt k hk).1
 have hB4:B≤w4.heap.size:=Nat.le_trans hBo h1.size
 exact ⟨h1.grown hg h1.size hr,(hi4.mono (Nat.le_trans hBo hoi.size)).grown hg hB4 (fun k hk=>Nat.le_trans hBo (hr k hk)),(Below.refl B w4).grown hg hB4 (fun k hk=>Nat.le_trans hBo (hr k hk))⟩
theorem five_at_new (w:World) (a0 a1 a2 a3 a4:Value) (t:TypeId) {n:Nat} (hn:n=w.heap.size):Five (w.alloc (.cells #[a0,a1,a2,a3,a4] t)) n 0 a0 a1 a2 a3 a4:=by
 subst hn
 exact ⟨by rw [World.cell?_alloc_at _ _ _ _ rfl];rfl,by rw [World.cell?_alloc_at _ _ _ _ rfl];rfl,by rw [World.cell?_alloc_at _ _ _ _ rfl];rfl,by rw [World.cell?_alloc_at _ _ _ _ rfl];rfl,by rw [World.cell?_alloc_at _ _ _ _ rfl];rfl⟩
theorem vfits_any (fn:Nat) (p:List UInt8→Bool) (hp:TestC fn p) (v:VT) (hz:sizeV v≤1100000) (c0 c1 c2 c3 c4:Value) (w:World) (B:Nat) (hB:B≤w.heap.size) (hv:VAt w B v c0 c1 c2 c3 c4) (hw:Laid5 w) :
  Calls Tryz.prog 176 #[.agg #[c0,c1,c2,c3,c4],.func (.func fn) #[] #[]] w fun e w'=>e=.returned (.bool (fitV p v))∧Below w.heap.size w w':=by
 have HP:=Hd hp
 have HB0:=Hd hB
 have HV:=Hd hv
 have HW:=Hd hw
 have HZ:=Hd hz
 have hsz:Hid (sizeV v=sizeL (.cons v .nil)):=Hd (by rw [sizeL,sizeL];omega)
 obtain ⟨k,n,s,l,m⟩:=v
 generalize hU:VT.mk k n s l m=U at *
 rw [← hU] at hv
 unfold VAt at hv
 obtain ⟨rfl,rfl,rfl,_,⟨A,c,rfl,hl,hL⟩,A',c',rfl,hm,hM⟩:=hv
 obtain ⟨i0,hi,hz0,hz1,hz2⟩:=info_parts info_val
 clear hL hM hp hB hw hz hU
 go_enter Tryz.func176,Tryz.ntmps176
 go_wp2
 go_step3
 go_wp2_with fail
 go_step3
 go_wp2_with fail
 have hb1:Below w.heap.size w (w.alloc (.cells #[.int .i64 k,.int .i64 n,.string s,.slice A l.len c,.slice A' m.len c'] 58)):=(Below.refl _ _).alloc (Nat.le_refl _) _
 have HB2:=Hd (hb1.alloc (by simp) (.cells #[.int .i64 k,.int .i64 n,.string s,.slice A l.len c,.slice A' m.len c'] 58))
 have HR2:=Hd (RowV.one (v:=U) (by simp) (five_at_new (w.alloc (.cells #[.int .i64 k,.int .i64 n,.string s,.slice A l.len c,.slice A' m.len c'] 58)) _ _ _ _ _ 58 (n:=w.heap.size+1) (by simp)) (VAt.below (HB2.out.mono HB0.out) _ _ _ _ _ _ HV.out))
 clear hb1
 go_loopg [5,6] (sizeV U) (fun g ft lev wx=>∃ (lv:VL) (Al:Option Addr) (cl:Nat),sizeL lv≤g∧lev=.slice Al lv.len cl∧ft=.bool true∧g≤1100000∧Below w.heap.size w wx∧Aside (RowV wx B lv Al∧fitL p lv=fitV p U))
 case atStart=>exact ⟨.cons U .nil,_,_,by rw [← hsz.out];exact Nat.le_refl _,rfl,rfl,HZ.out,HB2.out,vaside ⟨HR2.out,by rw [fitL,fitL];simp⟩⟩
 case round =>
  obtain ⟨lv,Al,cl,hsl,rfl,rfl,hg9,hb,HA⟩:=hrel
  have HBB:=Hd hb
  have HRR:=Hd HA.1
  have HFF:=Hd HA.2
  have hwr:=hb.size
  have hlv:=len_size lv
  clear hb HA HB2 HR2
  by_cases h0:lv.len=0
  · have hG:Hid (fitV p U=true):=Hd (by rw [← HFF.out,VL.nil_of_len h0];rfl)
    rw [h0]
    go_wp2_with fail
    simp only [Exit.noGoto_ret]
    go_ret
    exact ⟨ret_bool hG.out.symm,HBB.out⟩
  · have h0' : (0:Int) < (lv.len:Int):=by omega
    have h0n:0 < lv.len:=by omega
    have hBr:=Nat.le_trans HB0.out hwr
    go_wp2_with fail
    go_loopg [5,7,17] lv.len (fun g2 ft nxt i wx=>∃ (q:Nat) (xs:List Value),q+g2=lv.len∧i=.int .i64 q∧ft=.bool true∧wx.ownsRow wr.heap.size 58 5 nxt (kidsTo lv q).len xs∧Below wr.heap.size wr wx∧Aside (ValsA wx B (kidsTo lv q) xs∧checkTo p lv q=true))
    case atStart=>exact ⟨0,[],by omega,rfl,rfl,by rw [kidsTo_zero];exact World.ownsRow_nil _ _ _ _,Below.refl _ _,vaside ⟨by rw [kidsTo_zero];rfl,checkTo_zero _ _⟩⟩
    case round =>
     obtain ⟨q,xs,hq,rfl,rfl,hown,hb2,HA2⟩:=hrel
     obtain ⟨An,cn,rfl⟩:=shape_own hown
     have HO:=Hd hown
     have HX:=Hd HA2.1
     have HC:=Hd HA2.2
     have HBi:=Hd hb2
     have hwx:=hb2.size
     have HBw:=Hd (HBB.out.trans (hb2.mono hwr))
     have HRx:=Hd (HRR.out.below hBr hb2)
     have HWx:=Hd (HW.out.below HBw.out)
     clear hown HA2 hb2
     cases gk with
     | zero =>
       obtain rfl:q=lv.len:=by omega
       have hO2:=HO.out
       rw [kidsTo_all] at hO2
       obtain ⟨A6,c6,he6,hrow6⟩:=row_owned hO2 (by have h:=HX.out;rwa [kidsTo_all] at h)
       have HR6:=Hd hrow6
       have hlev:=Hd (size_level lv)
       have hfl:=Hd (fit_level p lv)
       have hck:Hid (checkL p lv=true):=Hd (by rw [← checkTo_all];exact HC.out)
       rw [kidsTo_all,he6]
       clear hO2 hrow6 he6 HO HX
       go_wp2_with fail
       go_roundg (sizeL (kidsL lv))
       case measure=>have:=hlev.out;omega
       case rel=>exact ⟨kidsL lv,A6,c6,Nat.le_refl _,rfl,rfl,by have:=hlev.out;omega,HBw.out,vaside ⟨HR6.out,by rw [← HFF.out,hfl.out,hck.out];simp⟩⟩
     | succ g3 =>
       have hqn:q < lv.len:=by omega
       have hqn':(q:Int) < (lv.len:Int):=by omega
       obtain ⟨x,hx⟩:=VL.get_lt hqn
       have hxs:=Nat.le_trans (sizeL_get hx) (Nat.le_trans hsl hg9)
       obtain ⟨b,o,d0,d1,d2,d3,d4,rfl,hblt,hF,hV⟩:=HRx.out q x hx
       have HXS:=Hd hxs
       have hnk:=Hd (kidsTo_next hx)
       have hnc:=Hd (checkTo_next p hx)
       have hno:=Hd (check_no p hx)
       have HWI:=Hd (within_any x hxs)
       have hxk:=Hd (size_kids x)
       have hV0:=Hd hV
       obtain ⟨xk,xn,xs2,xl,xm⟩:=x
       have hxm:Hid (sizeM xm≤1100000):=Hd (by rw [sizeV] at hxs;omega)
       have hxz:xs2.size≤1100000:=by rw [sizeV] at hxs;omega
       have hct:=Hd (fun b1 b2=>check_two (p:=p) (k:=xk) (n:=xn) (s:=xs2) (l:=xl) (m:=xm) (b1:=b1) (b2:=b2))
       unfold VAt at hV
       obtain ⟨rfl,rfl,rfl,_,⟨A3,c3',rfl,_,_⟩,A4,c4',rfl,hm4,hM4⟩:=hV
       obtain ⟨f0,f1,f2,f3,f4⟩:=hF
       have hnew:=Hd ((Below.refl wr.heap.size wr).alloc (Nat.le_refl _) (.cells #[.int .i64 xk,.int .i64 xn,.string xs2,.slice A3 xl.len c3',.slice A4 xm.len c4'] 58))
       have HM4:=Hd hM4
       have hBx:=Nat.le_trans hBr hwx
       have HS:=Hd (sound_any xk xn xs2 xl xm _ _ _ _ _ _ B (VAt.below (hnew.out.mono hBx) _ _ _ _ _ _ hV0.out) hxz (HWx.out.below hnew.out))
       have hF5:=Hd (five_at_new wr (.int .i64 xk) (.int .i64 xn) (.string xs2) (.slice A3 xl.len c3') (.slice A4 xm.len c4') 58 rfl)
       have hsw:(wr.alloc (.cells #[.int .i64 xk,.int .i64 xn,.string xs2,.slice A3 xl.len c3',.slice A4 xm.len c4'] 58)).heap.size=wr.heap.size+1:=by simp
       have HSW:=Hd hsw
       clear hM4 hx hxs hsw
       cases hs:soundB xk xn xs2.data.toList xl.len xm.len with
       | false =>
         have hr:Hid (fitV p U=false):=Hd (by rw [← HFF.out];exact hno.out (by rw [checkV,hs];rfl))
         rw [hs] at HS
         clear hs
         go_wp2_with fail
         refine HS.out.mono ?_
         rintro e w2 ⟨rfl,hb3⟩
         have HB3:=Hd (HBw.out.trans ((hnew.out.trans (hb3.mono (by rw [HSW.out];omega))).mono HBw.out.size))
         clear hb3
         go_wp2_with fail
         simp only [Exit.noGoto_ret]
         go_ret
         exact ⟨ret_bool hr.out.symm,HB3.out⟩
       | true =>
         rw [hs] at HS
         go_wp2_with fail
         refine HS.out.mono ?_
         rintro e w2 ⟨rfl,hb3⟩
         have hb4:=hnew.out.trans (hb3.mono (by rw [HSW.out];omega))
         have HB4:=Hd hb4
         have hs2:=hb4.size
         have hF2:=hF5.out.below hb3 (by rw [HSW.out];omega)
         have HNM:=Hd (vnamed_any fn p HP.out xm A4 c4' w2 B (Nat.le_trans hBx hs2) hm4 (MAt.below (hb4.mono hBx) _ _ _ HM4.out) hxm.out (HWx.out.below hb4))
         have hlt2:wr.heap.size < w2.heap.size:=by have:=hb3.size;rw [HSW.out] at this;omega
         have hF2':=Hd hF2
         obtain ⟨e0,e1,e2,e3,e4⟩:=hF2
         clear hb3 hb4 HS
         cases hnm:namesB p xm with
         | false =>
           have hr:Hid (fitV p U=false):=Hd (by rw [← HFF.out];exact hno.out (by rw [hct.out _ _ hs hnm];rfl))
           rw [hnm] at HNM
           clear hs hnm
           go_wp2_with fail
           refine HNM.out.mono ?_
           rintro e w3 ⟨rfl,hb5⟩
           have HB5:=Hd (HBw.out.trans ((HB4.out.trans (hb5.mono hs2)).mono HBw.out.size))
           clear hb5 e0 e1 e2 e3 e4
           go_wp2_with fail
           simp only [Exit.noGoto_ret]
           go_ret
           exact ⟨ret_bool hr.out.symm,HB5.out⟩
         | true =>
           have hcx:Hid (checkV p (.mk xk xn xs2 xl xm)=true):=Hd (by rw [hct.out _ _ hs hnm];rfl)
           rw [hnm] at HNM
           clear hs hnm
           go_wp2_with fail
           refine HNM.out.mono ?_
           rintro e w3 ⟨rfl,hb5⟩
           have hb6:=HB4.out.trans (hb5.mono hs2)
           have HB6:=Hd hb6
           have hs3:=hb6.size
           obtain ⟨y0,y1,y2,y3,y4⟩:=hF2'.out.below hb5 hlt2
           clear hb5 hb6 e0 e1 e2 e3 e4 HNM
           go_wp2_with fail
           refine (HWI.out _ _ _ _ _ _ B (Nat.le_trans hBx hs3) (VAt.below (HB6.out.mono hBx) _ _ _ _ _ _ hV0.out)).mono ?_
           rintro e w4 ⟨A5,c5,rfl,hrow,hb7⟩
           have HB7:=Hd (HB6.out.trans (hb7.mono hs3))
           have HR5:=Hd hrow
           clear hrow hb7 y0 y1 y2 y3 y4 f0 f1 f2 f3 f4
           cases A5 with
           | none =>
             have hkn:=HR5.out.none
             have hk0:Hid (kidsTo lv (q+1)=kidsTo lv q):=Hd (by rw [hnk.out,hkn,VL.app_nil])
             have hkl:(VT.mk xk xn xs2 xl xm).kids.len=0:=by rw [hkn];rfl
             rw [hkl]
             have HO4:=Hd (own_low HO.out HB7.out)
             clear hkn hkl
             go_wp2_with (at_builtin;refine wpList_append_nil rfl _ _ 55 rfl _ 58 i0 5 Tryz.underlying55 hi _ _ c5 xs rfl HO4.out rfl ?_)
             go_roundg g3
             case measure=>omega
             case rel=>exact ⟨q+1,xs,by omega,by go_num,rfl,by rw [hk0.out];exact HO4.out,HBi.out.trans (HB7.out.mono hwx),vaside ⟨by rw [hk0.out];exact ValsA.below (HB7.out.mono hBx) HX.out,by rw [hnc.out,HC.out,hcx.out];rfl⟩⟩
           | some a =>
             obtain ⟨news,hval,hat⟩:=HR5.out.vals
             have hnl:=hval.len
             have hn1:=hval.one
             have hkl:(VT.mk xk xn xs2 xl xm).kids.len≤1100000:=by have h0:=HXS.out;have h1:=hxk.out;have h2:=len_size (VT.mk xk xn xs2 xl xm).kids;omega
             have hql:(kidsTo lv q).len≤1100000:=by have h3:=Nat.le_trans hsl hg9;have h1:=kidsTo_size lv q;have h2:=len_size (kidsTo lv q);omega
             have HO4:=Hd (own_low HO.out HB7.out)
             have HVN:=Hd hval
             have hB4:=Nat.le_trans hBx HB7.out.size
             have hwo:=Nat.le_trans hwx HB7.out.size
             clear hval
             go_wp2_with (at_builtin;refine wpList_append_own _ rfl _ _ 55 rfl _ 58 i0 (.agg #[.int .i64 0,.int .i64 0,.string ⟨#[]⟩,.slice none 0 0,.slice none 0 0]) 5 80 Tryz.underlying55 hi hz0 hz1 hz2 rfl (by decide) _ _ xs rfl HO4.out a _ c5 news rfl hnl hat hn1 (by unfold maxLen;omega) (by omega) hwo ?_;intro v5 w5 hown5 hgr5 _;obtain ⟨A8,c8,rfl⟩:=shape_own hown5;have HO5:=Hd hown5;have HG5:=Hd hgr5;clear hown5 hgr5)
             have hbl:=Hd (level_next hBr HBi.out HB7.out HO.out HG5.out)
             go_roundg g3
             case measure=>omega
             case rel=>exact ⟨q+1,xs++news,by omega,by go_num,rfl,by rw [hnk.out,VL.len_app];exact HO5.out,hbl.out.1,vaside ⟨by rw [hnk.out];exact (ValsA.below hbl.out.2.1 HX.out).app (ValsA.below hbl.out.2.2 HVN.out),by rw [hnc.out,HC.out,hcx.out];rfl⟩⟩
end Go.Proofs.YtaekdfcpbepepaaGreatDoor
