/- sdl.Right. (gen_right4.py wrote it.) -/
import Derived.Test.YtaekdfcpbepepaaGreatDoorQt27
import Derived.Maps.OwnSet
set_option maxRecDepth 100000
set_option maxHeartbeats 8000000
namespace Go.Proofs.YtaekdfcpbepepaaGreatDoor
open Go.RowKit
def nonB (s:ByteArray):Bool:=(s.toList == []) || nmB s
theorem none_right (s:ByteArray) (w:World) (hs:s.size≤9223372036854775807):Calls Tryz.prog 147 #[.string s] w fun e w'=>e=.returned (.bool (nonB s))∧Below w.heap.size w w':=by
 have NA:=Hd (name_low s w hs)
 have HE:Hid (nonB s=((s.toList == []) || nameB s.data.toList)):=Hd rfl
 obtain ⟨b0,hb0⟩:∃ b,(s.toList == [])=b:=⟨_,rfl⟩
 have hem:s.toList.isEmpty=b0:=by rw [← hb0];cases s.toList<;>rfl
 rw [hb0] at HE
 generalize nameB s.data.toList=nb at NA HE
 cases b0 with
 | true =>
   go_enter Tryz.func147,Tryz.ntmps147
   go_wp2_with fail
   go_ret
   exact ⟨by rw [HE.out];rfl,Below.refl _ _⟩
 | false =>
   go_enter Tryz.func147,Tryz.ntmps147
   go_wp2_with fail
   refine NA.out.mono ?_
   rintro e w2 ⟨rfl,hb⟩
   have HB:=Hd hb
   clear hb
   go_wp2_with fail
   go_ret
   exact ⟨by rw [HE.out];rfl,HB.out⟩
theorem sch_sizes {w:World} {P:Nat→Prop} {S:SchT} {cs:List Value} (h:TS w P (encSch S) cs):S.query.size≤9223372036854775807∧S.mutation.size≤9223372036854775807:=by
 simp only [encSch,TS,TP] at h
 obtain ⟨_,_,rfl,_,_,_,rfl,⟨rfl,hq⟩,_,_,rfl,⟨rfl,hm⟩,_⟩:=h
 exact ⟨hq,hm⟩
noncomputable def schB (S:SchT):Bool:=nmB S.query && (nonB S.mutation && S.defs.all defB)
def PartS (S:SchT):Prop:=∀ d,d ∈ S.defs→∀ s,s ∈ d.parts→s.size≤1000000
theorem sdl_right (S:SchT) (hz:ModS S) (hpz:PartS S) (c0 c1 c2:Value) (w:World) (B:Nat) (hB:B≤w.heap.size) (hS:TS w (fun b=>b < B) (encSch S) [c0,c1,c2]) (hw:Laid5 w) :
   Calls Tryz.prog 96 #[.agg #[c0,c1,c2]] w fun e w'=>e=.returned (.bool (schB S))∧Below w.heap.size w w':=by
 obtain ⟨hq,hm⟩:=sch_sizes hS
 obtain ⟨A,k,e,hl,hR⟩:=sch_cells hS
 injection e with e0 e
 injection e with e1 e
 injection e with e2 e
 subst e0 e1 e2
 have NA:=Hd (fun (wx:World)=>name_low S.query wx hq)
 have NN:=Hd (fun (wx:World)=>none_right S.mutation wx hm)
 have AD:=Hd (fun (wx:World) (h:Below w.heap.size w wx)=>allDef_any 149 S.defs A k defB wx B (Nat.le_trans hB h.size) hl (RowT.below (h.mono hB) hR) (Go.Proofs.enters_of Tryz.func149 (by kernel_rfl) rfl) (fun y hy cs W hb hT'=>def_right y (hz y hy) (hpz y hy) cs W B (Nat.le_trans (Nat.le_trans hB h.size) hb.size) hT' ((hw.below h).below hb)))
 have HE:Hid (schB S=(nmB S.query && (nonB S.mutation && S.defs.all defB))):=Hd rfl
 have B1:=Hd (dbelow_new w (.cells #[.slice A S.defs.length k,.string S.query,.string S.mutation] 24))
 have Y1:=Hd (heap_alloc_new w (.cells #[.slice A S.defs.length k,.string S.query,.string S.mutation] 24))
 clear hB hS hw hz hpz hR
 obtain ⟨nb,hnb⟩:∃ b,nmB S.query=b:=⟨_,rfl⟩
 have hnb':nameB S.query.data.toList=nb:=hnb
 rw [hnb'] at NA
 rw [hnb] at HE
 generalize nonB S.mutation=mb at NN HE
 generalize S.defs.all defB=db at AD HE
 clear hnb hnb'
 go_enter Tryz.func96,Tryz.ntmps96
 go_upto_region 1 with fail
 generalize w.alloc (.cells #[.slice A S.defs.length k,.string S.query,.string S.mutation] 24)=w1 at B1 Y1 ⊢
 obtain ⟨y0,y1,y2⟩:=three_cells Y1.out
 go_wp2_with fail
 refine (NA.out _).mono ?_
 rintro e w2 ⟨rfl,hb⟩
 have B2:=Hd (B1.out.trans (hb.mono B1.out.size))
 have Y2:=Hd ((hb.block _ (Array.getElem?_eq_some_iff.1 Y1.out).1).trans Y1.out)
 clear hb y0 y1 y2 Y1
 cases nb with
 | false =>
   go_wp2_with fail
   go_ret
   exact ⟨by rw [HE.out];rfl,B2.out⟩
 | true =>
   obtain ⟨y0,y1,y2⟩:=three_cells Y2.out
   go_wp2_with fail
   refine (NN.out _).mono ?_
   rintro e w3 ⟨rfl,hb⟩
   have B3:=Hd (B2.out.trans (hb.mono B2.out.size))
   have Y3:=Hd ((hb.block _ (Array.getElem?_eq_some_iff.1 Y2.out).1).trans Y2.out)
   clear hb y0 y1 y2 Y2
   cases mb with
   | false =>
     go_wp2_with fail
     go_ret
     exact ⟨by rw [HE.out];rfl,B3.out⟩
   | true =>
     obtain ⟨y0,y1,y2⟩:=three_cells Y3.out
     go_wp2_with fail
     refine (AD.out _ B3.out).mono ?_
     rintro e w4 ⟨rfl,hb⟩
     have B4:=Hd (B3.out.trans (hb.mono B3.out.size))
     clear hb y0 y1 y2 Y3
     go_wp2_with fail
     go_ret
     exact ⟨by rw [HE.out];rfl,B4.out⟩
def isaB (D:List DefnT) (n:ByteArray) (kd:Int):Bool:=(findD D n).2 && ((findD D n).1.kind == kd)
theorem isa_any (S:SchT) (n:ByteArray) (kd:Int) (c0 c1 c2:Value) (w:World) (B:Nat) (hB:B≤w.heap.size) (hn:n.size≤9223372036854775807) (hz:SlimS S) (hS:TS w (fun b=>b < B) (encSch S) [c0,c1,c2]) :
   Calls Tryz.prog 99 #[.agg #[c0,c1,c2],.string n,.int .i64 kd] w fun e w'=>e=.returned (.bool (isaB S.defs n kd))∧Below w.heap.size w w':=by
 have FI:=Hd (fun (wx:World) (hb:Below w.heap.size w wx)=>Find_any S n c0 c1 c2 wx B (Nat.le_trans hB hb.size) hn hz (TS.low (hb.mono hB) hS))
 obtain ⟨A,k,e,hl,hR⟩:=sch_cells hS
 injection e with e0 e
 injection e with e1 e
 injection e with e2 e
 subst e0 e1 e2
 have HE:Hid (isaB S.defs n kd=((findD S.defs n).2 && ((findD S.defs n).1.kind == kd))):=Hd rfl
 generalize isaB S.defs n kd=r at HE ⊢
 generalize findD S.defs n=fd at FI HE
 have B1:=Hd (dbelow_new w (.cells #[.slice A S.defs.length k,.string S.query,.string S.mutation] 24))
 have Y1:=Hd (heap_alloc_new w (.cells #[.slice A S.defs.length k,.string S.query,.string S.mutation] 24))
 clear hB hS hR hz e
 obtain ⟨d,ok⟩:=fd
 dsimp only at HE
 go_enter Tryz.func99,Tryz.ntmps99
 go_upto_region 1 with fail
 generalize w.alloc (.cells #[.slice A S.defs.length k,.string S.query,.string S.mutation] 24)=w1 at B1 Y1 ⊢
 obtain ⟨y0,y1,y2⟩:=three_cells Y1.out
 go_wp2_with fail
 refine (FI.out _ B1.out).mono ?_
 rintro e w2 ⟨d0,d1,d2,d3,d4,d5,rfl,hT,hb⟩
 have B2:=Hd (B1.out.trans (hb.mono B1.out.size))
 obtain ⟨Af,kf,Ax,kx,Ap,kp,Am,km,e,_⟩:=defn_cells hT
 simp only [List.cons.injEq,and_true] at e
 obtain ⟨rfl,rfl,rfl,rfl,rfl,rfl⟩:=e
 clear hb hT FI y0 y1 y2 Y1
 go_upto_region 2 with fail
 have B3:=Hd (B2.out.trans ((dbelow_new w2 (.cells #[.int .i64 d.kind,.string d.name,.slice Af d.faces.length kf,.slice Ax d.fields.length kx,.slice Ap d.parts.length kp,.slice Am d.params.length km] 37)).mono B2.out.size))
 have Y3:=Hd (heap_alloc_new w2 (.cells #[.int .i64 d.kind,.string d.name,.slice Af d.faces.length kf,.slice Ax d.fields.length kx,.slice Ap d.parts.length kp,.slice Am d.params.length km] 37))
 generalize w2.alloc (.cells #[.int .i64 d.kind,.string d.name,.slice Af d.faces.length kf,.slice Ax d.fields.length kx,.slice Ap d.parts.length kp,.slice Am d.params.length km] 37)=w3 at B3 Y3 ⊢
 generalize w2.heap.size=g7 at Y3 ⊢
 obtain ⟨⟨y0,y1,y2,y3,y4,y5⟩,_⟩:=six_cells Y3.out
 cases ok with
 | false =>
   go_wp2_with fail
   go_ret
   exact ⟨by rw [HE.out];rfl,B3.out⟩
 | true =>
   go_wp2_with fail
   go_ret
   exact ⟨by rw [HE.out];rfl,B3.out⟩
theorem scalar_any (n:ByteArray) (w:World) (hn:n.size≤9223372036854775807):Calls Tryz.prog 95 #[.string n] w fun e w'=>e=.returned (.bool (leafD [] n))∧Below w.heap.size w w':=by
 have LF:=Hd (leaf_any ⟨[],⟨#[]⟩,⟨#[]⟩⟩ n (.slice none 0 0) (.string ⟨#[]⟩) (.string ⟨#[]⟩) w w.heap.size (Nat.le_refl _) hn (by
  unfold encSch
  simp only [TS,TP]
  exact ⟨_,_,rfl,⟨none,0,rfl,by simp [rowOf,TrL.len],by simp [rowOf,RowT]⟩,_,_,rfl,⟨rfl,Nat.zero_le _⟩,_,_,rfl,⟨rfl,Nat.zero_le _⟩,rfl⟩))
 go_enter Tryz.func95,Tryz.ntmps95
 go_wp2_with fail
 refine LF.out.mono ?_
 rintro e w2 ⟨rfl,hb⟩
 have HB:=Hd hb
 clear hb
 go_wp2_with fail
 go_ret
 exact ⟨rfl,HB.out⟩
structure RulesC (A:Option Addr) (nd k:Nat) (qy mt:ByteArray) (b:Nat→Bool) (w:World):Prop where
 r1:∀ wx,Below w.heap.size w wx→Calls Tryz.prog 54 #[.agg #[.slice A nd k,.string qy,.string mt]] wx fun e w'=>e=.returned (.bool (b 1))∧Below wx.heap.size wx w'
 r2:∀ wx,Below w.heap.size w wx→Calls Tryz.prog 55 #[.agg #[.slice A nd k,.string qy,.string mt]] wx fun e w'=>e=.returned (.bool (b 2))∧Below wx.heap.size wx w'
 r3:∀ wx,Below w.heap.size w wx→Calls Tryz.prog 56 #[.agg #[.slice A nd k,.string qy,.string mt]] wx fun e w'=>e=.returned (.bool (b 3))∧Below wx.heap.size wx w'
 r4:∀ wx,Below w.heap.size w wx→Calls Tryz.prog 57 #[.agg #[.slice A nd k,.string qy,.string mt]] wx fun e w'=>e=.returned (.bool (b 4))∧Below wx.heap.size wx w'
 r5:∀ wx,Below w.heap.size w wx→Calls Tryz.prog 58 #[.agg #[.slice A nd k,.string qy,.string mt]] wx fun e w'=>e=.returned (.bool (b 5))∧Below wx.heap.size wx w'
 r6:∀ wx,Below w.heap.size w wx→Calls Tryz.prog 59 #[.agg #[.slice A nd k,.string qy,.string mt]] wx fun e w'=>e=.returned (.bool (b 6))∧Below wx.heap.size wx w'
 r7:∀ wx,Below w.heap.size w wx→Calls Tryz.prog 60 #[.agg #[.slice A nd k,.string qy,.string mt]] wx fun e w'=>e=.returned (.bool (b 7))∧Below wx.heap.size wx w'
 r8:∀ wx,Below w.heap.size w wx→Calls Tryz.prog 61 #[.agg #[.slice A nd k,.string qy,.string mt]] wx fun e w'=>e=.returned (.bool (b 8))∧Below wx.heap.size wx w'
 r9:∀ wx,Below w.heap.size w wx→Calls Tryz.prog 62 #[.agg #[.slice A nd k,.string qy,.string mt]] wx fun e w'=>e=.returned (.bool (b 9))∧Below wx.heap.size wx w'
def ruleN (b:Nat→Bool) (n:Int):Bool:=if n=1 then b 1 else if n=2 then b 2 else if n=3 then b 3 else if n=4 then b 4 else if n=5 then b 5 else if n=6 then b 6 else if n=7 then b 7 else if n=8 then b 8 else if n=9 then b 9 else false
def firstN (b:Nat→Bool):Nat→Nat→Int
 | 0,_=>0
 | f+1,n=>if b n=true then firstN b f (n+1) else (n:Int)
def checkN (b:Nat→Bool):Int:=firstN b 9 1
theorem rule_any (A:Option Addr) (nd k:Nat) (qy mt:ByteArray) (b:Nat→Bool) (n:Int) (w0 w:World) (hr:RulesC A nd k qy mt b w0) (h0:Below w0.heap.size w0 w) :
   Calls Tryz.prog 31 #[.agg #[.slice A nd k,.string qy,.string mt],.int .i64 n] w fun e w'=>e=.returned (.bool (ruleN b n))∧Below w.heap.size w w':=by
 have B1:=Hd (dbelow_new w (.cells #[.slice A nd k,.string qy,.string mt] 24))
 have Y1:=Hd (heap_alloc_new w (.cells #[.slice A nd k,.string qy,.string mt] 24))
 have H1:=Hd (h0.trans (B1.out.mono h0.size))
 have HR:=Hd hr
 have HE:Hid (ruleN b n=if n=1 then b 1 else if n=2 then b 2 else if n=3 then b 3 else if n=4 then b 4 else if n=5 then b 5 else if n=6 then b 6 else if n=7 then b 7 else if n=8 then b 8 else if n=9 then b 9 else false):=Hd rfl
 generalize ruleN b n=r at HE ⊢
 clear hr h0
 go_enter Tryz.func31,Tryz.ntmps31
 go_upto_region 1 with fail
 generalize w.alloc (.cells #[.slice A nd k,.string qy,.string mt] 24)=w1 at B1 Y1 H1 ⊢
 obtain ⟨y0,y1,y2⟩:=three_cells Y1.out
 cases e1:(n == 1) with
 | true =>
   have hn:n=1:=eq_of_beq e1
   have HK:Hid (r=b 1):=Hd (HE.out.trans (by rw [hn];rfl))
   have CR:=Hd (HR.out.r1 _ H1.out)
   generalize b 1=v at HK CR
   clear hn
   go_wp2_with fail
   refine CR.out.mono ?_
   rintro e w2 ⟨rfl,hb⟩
   have B2:=Hd (B1.out.trans (hb.mono B1.out.size))
   clear hb
   go_wp2_with fail
   go_ret
   exact ⟨by rw [HK.out];rfl,B2.out⟩
 | false =>
 cases e2:(n == 2) with
 | true =>
   have hn:n=2:=eq_of_beq e2
   have HK:Hid (r=b 2):=Hd (HE.out.trans (by rw [hn];rfl))
   have CR:=Hd (HR.out.r2 _ H1.out)
   generalize b 2=v at HK CR
   clear hn
   go_wp2_with fail
   refine CR.out.mono ?_
   rintro e w2 ⟨rfl,hb⟩
   have B2:=Hd (B1.out.trans (hb.mono B1.out.size))
   clear hb
   go_wp2_with fail
   go_ret
   exact ⟨by rw [HK.out];rfl,B2.out⟩
 | false =>
 cases e3:(n == 3) with
 | true =>
   have hn:n=3:=eq_of_beq e3
   have HK:Hid (r=b 3):=Hd (HE.out.trans (by rw [hn];rfl))
   have CR:=Hd (HR.out.r3 _ H1.out)
   generalize b 3=v at HK CR
   clear hn
   go_wp2_with fail
   refine CR.out.mono ?_
   rintro e w2 ⟨rfl,hb⟩
   have B2:=Hd (B1.out.trans (hb.mono B1.out.size))
   clear hb
   go_wp2_with fail
   go_ret
   exact ⟨by rw [HK.out];rfl,B2.out⟩
 | false =>
 cases e4:(n == 4) with
 | true =>
   have hn:n=4:=eq_of_beq e4
   have HK:Hid (r=b 4):=Hd (HE.out.trans (by rw [hn];rfl))
   have CR:=Hd (HR.out.r4 _ H1.out)
   generalize b 4=v at HK CR
   clear hn
   go_wp2_with fail
   refine CR.out.mono ?_
   rintro e w2 ⟨rfl,hb⟩
   have B2:=Hd (B1.out.trans (hb.mono B1.out.size))
   clear hb
   go_wp2_with fail
   go_ret
   exact ⟨by rw [HK.out];rfl,B2.out⟩
 | false =>
 cases e5:(n == 5) with
 | true =>
   have hn:n=5:=eq_of_beq e5
   have HK:Hid (r=b 5):=Hd (HE.out.trans (by rw [hn];rfl))
   have CR:=Hd (HR.out.r5 _ H1.out)
   generalize b 5=v at HK CR
   clear hn
   go_wp2_with fail
   refine CR.out.mono ?_
   rintro e w2 ⟨rfl,hb⟩
   have B2:=Hd (B1.out.trans (hb.mono B1.out.size))
   clear hb
   go_wp2_with fail
   go_ret
   exact ⟨by rw [HK.out];rfl,B2.out⟩
 | false =>
 cases e6:(n == 6) with
 | true =>
   have hn:n=6:=eq_of_beq e6
   have HK:Hid (r=b 6):=Hd (HE.out.trans (by rw [hn];rfl))
   have CR:=Hd (HR.out.r6 _ H1.out)
   generalize b 6=v at HK CR
   clear hn
   go_wp2_with fail
   refine CR.out.mono ?_
   rintro e w2 ⟨rfl,hb⟩
   have B2:=Hd (B1.out.trans (hb.mono B1.out.size))
   clear hb
   go_wp2_with fail
   go_ret
   exact ⟨by rw [HK.out];rfl,B2.out⟩
 | false =>
 cases e7:(n == 7) with
 | true =>
   have hn:n=7:=eq_of_beq e7
   have HK:Hid (r=b 7):=Hd (HE.out.trans (by rw [hn];rfl))
   have CR:=Hd (HR.out.r7 _ H1.out)
   generalize b 7=v at HK CR
   clear hn
   go_wp2_with fail
   refine CR.out.mono ?_
   rintro e w2 ⟨rfl,hb⟩
   have B2:=Hd (B1.out.trans (hb.mono B1.out.size))
   clear hb
   go_wp2_with fail
   go_ret
   exact ⟨by rw [HK.out];rfl,B2.out⟩
 | false =>
 cases e8:(n == 8) with
 | true =>
   have hn:n=8:=eq_of_beq e8
   have HK:Hid (r=b 8):=Hd (HE.out.trans (by rw [hn];rfl))
   have CR:=Hd (HR.out.r8 _ H1.out)
   generalize b 8=v at HK CR
   clear hn
   go_wp2_with fail
   refine CR.out.mono ?_
   rintro e w2 ⟨rfl,hb⟩
   have B2:=Hd (B1.out.trans (hb.mono B1.out.size))
   clear hb
   go_wp2_with fail
   go_ret
   exact ⟨by rw [HK.out];rfl,B2.out⟩
 | false =>
 cases e9:(n == 9) with
 | true =>
   have hn:n=9:=eq_of_beq e9
   have HK:Hid (r=b 9):=Hd (HE.out.trans (by rw [hn];rfl))
   have CR:=Hd (HR.out.r9 _ H1.out)
   generalize b 9=v at HK CR
   clear hn
   go_wp2_with fail
   refine CR.out.mono ?_
   rintro e w2 ⟨rfl,hb⟩
   have B2:=Hd (B1.out.trans (hb.mono B1.out.size))
   clear hb
   go_wp2_with fail
   go_ret
   exact ⟨by rw [HK.out];rfl,B2.out⟩
 | false =>
 have HK:Hid (r=false):=Hd (HE.out.trans (by
   simp only [beq_eq_false_iff_ne] at e1 e2 e3 e4 e5 e6 e7 e8 e9
   rw [if_neg e1,if_neg e2,if_neg e3,if_neg e4,if_neg e5,if_neg e6,if_neg e7,if_neg e8,if_neg e9]))
 go_wp2_with fail
 go_ret
 exact ⟨by rw [HK.out];rfl,B1.out⟩
theorem firstN_at (b:Nat→Bool) (q:Nat) (h:q < 9):firstN b (9 - q) (q+1)=if b (q+1)=true then firstN b (9 - (q+1)) (q+2) else ((q+1:Nat):Int):=by
 rw [show 9 - q=(9 - (q+1))+1 by omega,firstN]
theorem ruleN_at (b:Nat→Bool) (q:Nat) (h:q < 9):ruleN b ((q+1:Nat):Int)=b (q+1):=by
 have:q=0∨q=1∨q=2∨q=3∨q=4∨q=5∨q=6∨q=7∨q=8:=by omega
 rcases this with rfl|rfl|rfl|rfl|rfl|rfl|rfl|rfl|rfl<;>rfl
theorem check_any (A:Option Addr) (nd k:Nat) (qy mt:ByteArray) (b:Nat→Bool) (w:World) (hr:RulesC A nd k qy mt b w) :
  Calls Tryz.prog 14 #[.agg #[.slice A nd k,.string qy,.string mt]] w fun e w'=>e=.returned (.int .i64 (checkN b))∧Below w.heap.size w w':=by
 have B1:=Hd (dbelow_new w (.cells #[.slice A nd k,.string qy,.string mt] 24))
 have Y1:=Hd (heap_alloc_new w (.cells #[.slice A nd k,.string qy,.string mt] 24))
 have HR:=Hd (fun (n:Int) (wx:World) (h:Below w.heap.size w wx)=>rule_any A nd k qy mt b n w wx hr h)
 have HE:Hid (checkN b=firstN b (9 - 0) (0+1)):=Hd rfl
 generalize checkN b=r at HE ⊢
 clear hr
 go_enter Tryz.func14,Tryz.ntmps14
 go_upto_region 1 with fail
 generalize w.alloc (.cells #[.slice A nd k,.string qy,.string mt] 24)=w1 at B1 Y1 ⊢
 go_wp2_with fail
 go_loopg [3] 9 (fun g i wx=>∃ q:Nat,q+g=9∧i=.int .i64 ((q+1:Nat):Int)∧Aside (r=firstN b (9 - q) (q+1)∧Below w.heap.size w wx∧wx.heap[w.heap.size]? = some (.cells #[.slice A nd k,.string qy,.string mt] 24 (0,0))))
 case atStart=>exact ⟨0,by omega,rfl,Blk.Aside.intro ⟨HE.out,B1.out,Y1.out⟩⟩
 case round =>
  obtain ⟨q,hq,rfl,HX⟩:=hrel
  have HI:=Hd HX.out.1
  have BX:=Hd HX.out.2.1
  have YX:=Hd HX.out.2.2
  clear HX B1 Y1 HE
  cases gk with
  | zero =>
    obtain rfl:q=9:=by omega
    have HK:Hid (r=0):=Hd (HI.out.trans rfl)
    go_wp2_with fail
    go_ret
    exact ⟨by rw [HK.out];rfl,BX.out⟩
  | succ g =>
    have hqn:q < 9:=by omega
    have hqn':((q+1:Nat):Int)≤9:=by omega
    have HN:=Hd (HI.out.trans (firstN_at b q hqn))
    have CR:=Hd (HR.out ((q+1:Nat):Int))
    rw [ruleN_at b q hqn] at CR
    generalize b (q+1)=v at CR HN
    clear HI
    obtain ⟨z,hz⟩:∃ z:Int,((q+1:Nat):Int)=z:=⟨_,rfl⟩
    rw [hz] at CR hqn' HN ⊢
    have HZ:=Hd hz
    clear hz
    obtain ⟨y0,y1,y2⟩:=three_cells YX.out
    go_wp2_with fail
    refine (CR.out _ BX.out).mono ?_
    rintro e w2 ⟨rfl,hb⟩
    have B2:=Hd (BX.out.trans (hb.mono BX.out.size))
    have Y2:=Hd ((hb.block _ (Array.getElem?_eq_some_iff.1 YX.out).1).trans YX.out)
    clear hb y0 y1 y2 BX YX
    cases v with
    | false =>
      have HK:Hid (r=z):=Hd (HN.out.trans (if_neg (by decide)))
      go_wp2_with fail
      go_ret
      exact ⟨by rw [HK.out];rfl,B2.out⟩
    | true =>
      have HK:=Hd (HN.out.trans (if_pos rfl))
      have hz1:IntKind.i64.wrap (z+1)=((q+1+1:Nat):Int):=by have:=HZ.out;simp only [IntKind.wrap_i64];omega
      go_wp2_with fail
      go_roundg g
      case measure=>omega
      case rel=>exact ⟨q+1,by omega,by first|(rw [hz1])|(go_num),Blk.Aside.intro ⟨HK.out,B2.out,Y2.out⟩⟩
open Go.Shelf Go.RowKit
def hpxRen:Go.Shelf.Ren:=⟨fun|99=>146|206=>168|n=>n,fun|3=>3|4=>4|5=>5|9=>9|n=>n,fun  | n=>n⟩
theorem hpxLays:Go.Proofs.Lays.n99 Tryz.prog hpxRen:={
 mixed:=by kernel_rfl
 f99:=Tryz.func146.trans (congrArg some (by kernel_rfl))
 f206:=Tryz.func168.trans (congrArg some (by kernel_rfl))
 t3:=Tryz.underlying3
 a3:=Tryz.isAgg3
 z3:=Tryz.sizeOf3
 v3:=Tryz.zeroValue3
 t4:=Tryz.underlying4
 a4:=Tryz.isAgg4
 z4:=Tryz.sizeOf4
 v4:=Tryz.zeroValue4
 t9:=Tryz.underlying9
 a9:=Tryz.isAgg9
 z9:=Tryz.sizeOf9
 v9:=Tryz.zeroValue9 }
theorem hasprefix_any (s p:ByteArray) (w:World):Calls Tryz.prog 146 #[.string s,.string p] w fun e w'=>e=.returned (.bool (Lib.hasPrefix s.data.toList p.data.toList))∧w'=w:=Any.strings_HasPrefix hpxLays s p w
def resB (s:ByteArray):Bool:=Lib.hasPrefix s.data.toList [95,95]
theorem reserved_any (n:ByteArray) (w:World):Calls Tryz.prog 94 #[.string n] w fun e w'=>e=.returned (.bool (resB n))∧Below w.heap.size w w':=by
 have HP:=Hd (hasprefix_any n ⟨#[95,95]⟩ w)
 have HE:Hid (resB n=Lib.hasPrefix n.data.toList [95,95]):=Hd rfl
 generalize resB n=r at HE ⊢
 go_enter Tryz.func94,Tryz.ntmps94
 go_wp2_with fail
 refine HP.out.mono ?_
 rintro e w2 ⟨rfl,rfl⟩
 go_wp2_with fail
 go_ret
 exact ⟨by rw [HE.out];rfl,Below.refl _ _⟩
def KeysD (D:DataW Unit) (out:List ByteArray):Prop:=Maps.Tidy D∧(∀ s:ByteArray,Maps.has D (.string s.data.toList)=hasN out s)∧Maps.size D=out.length
def R0 (_:Value):Option (DataW Unit × List MemPlace):=some (.lit (.bool true),[])
theorem KeysD.nil:KeysD (.map []) []:=⟨⟨[],rfl,List.Pairwise.nil⟩,fun _=>rfl,rfl⟩
theorem hasN_snoc (out:List ByteArray) (s t:ByteArray):hasN (out++[s]) t=(hasN out t || (s.data.toList == t.data.toList)):=by
 unfold hasN
 rw [List.any_append]
 simp
theorem KeysD.put {D:DataW Unit} {out:List ByteArray} (h:KeysD D out) (s:ByteArray):KeysD (D.put (.string s.data.toList) (.lit (.bool true))) (addN out s):=by
 obtain ⟨h1,h2,h3⟩:=h
 refine ⟨h1.put (by trivial) _,fun t=>?_,?_⟩
 · by_cases e:t.data.toList=s.data.toList
   · rw [e,Maps.has_put_same h1.isMap (by trivial)]
     have:t=s:=ByteArray.ext (Array.toList_inj.1 e)
     subst this
     unfold addN
     split
     · next hh=>exact hh.symm
     · rw [hasN_snoc];simp
   · rw [Maps.has_put_other (fun e'=>e (by injection e')),h2 t]
     unfold addN
     split
     · rfl
     · rw [hasN_snoc]
       have:(s.data.toList == t.data.toList)=false:=beq_eq_false_iff_ne.2 (fun e'=>e e'.symm)
       rw [this,Bool.or_false]
 · rw [Maps.size_put h1,h2 s,h3]
   unfold addN
   cases hasN out s<;>simp
theorem run_makeMapN {P:Program} {t k e:TypeId} (ht:P.underlying t=some (.map k e)) (n:Int) (w:World):(Instr.makeMap t (some (.int .i64 n))).run P w=.ok (.map (some w.heap.size)) (w.alloc (.map #[] 0)):=by
 unfold Instr.makeMap
 simp [run_underlying ht,asInt]
 rfl
theorem step_mapput {P:Program} {ops:Array Oper} {o:Oper} {w:World} {a:Act} {K:Act→World→Prop} {Q:Exit→Act→World→Prop} {E:Prop} (hgd:o.guard=none) (m x v:Operand) (t:TypeId) (hop:o.op=Op.mapUpdate t m x v)
  (k e:TypeId) (KD:Maps.Keyed P k) (ht:P.underlying t=some (.map k e)) (b n:Nat) (D:DataW Unit) (hm:a.eval m=.map (some b)) (hown:w.ownsMap P k R0 b n D) (hn:n < maxLen) (key val:Value) (kl:Lit) (hx:a.eval x=key) (hv:a.eval v=val) (hkey:keyOf P k key=some kl)
  (hK:∀ w',w'.ownsMap P k R0 b (n+1) (D.put kl (.lit (.bool true)))→w.grownBy w' (some b)→K (a.put o.dst undef) w'):if Region.wanted o (yielded ops a.tmps)=true then Oper.wp P o a w K Q else E:=by
 have hw:Region.wanted o (yielded ops a.tmps)=true:=by simp [Region.wanted,hgd]
 rw [if_pos hw]
 obtain ⟨w',hrun,r1,r2⟩:=hown.update KD ht hn (key:=key) (val:=val) hkey (d:=.lit (.bool true)) (ps:=[]) rfl
 unfold Oper.wp
 simp [execOp,hop,hm,hx,hv,hrun,Result.andThen]
 exact hK w' r1 r2
def QL (lo:Nat) (wz:World) (cs:List (Nat × Nat × Value)) (W:World):Prop:=(∀ p,p ∈ cs→W.cell? ⟨p.1,p.2.1,none⟩=some p.2.2)∧Below lo wz W
theorem qmdef_written {lo:Nat} {wz W:World} {a1 b1 a2 b2 a3 b3 a4 b4 a5 b5 a6 b6:Nat} {v1 v2 v3 v4 v5 v6:Value} (h:QL lo wz [(a1,b1,v1),(a2,b2,v2),(a3,b3,v3),(a4,b4,v4),(a5,b5,v5),(a6,b6,v6)] W) :
  W.cell? ⟨a1,b1,none⟩=some v1∧W.cell? ⟨a2,b2,none⟩=some v2∧W.cell? ⟨a3,b3,none⟩=some v3∧W.cell? ⟨a4,b4,none⟩=some v4∧W.cell? ⟨a5,b5,none⟩=some v5∧W.cell? ⟨a6,b6,none⟩=some v6∧QL lo wz [(a1,b1,v1),(a2,b2,v2),(a3,b3,v3),(a4,b4,v4),(a5,b5,v5),(a6,b6,v6)] W:=
 ⟨h.1 (a1,b1,v1) (by simp),h.1 (a2,b2,v2) (by simp),h.1 (a3,b3,v3) (by simp),h.1 (a4,b4,v4) (by simp),h.1 (a5,b5,v5) (by simp),h.1 (a6,b6,v6) (by simp),h⟩
theorem qmdef_last {lo:Nat} {wz W:World} {cs:List (Nat × Nat × Value)} {p1 p2 p3 p4 p5 p6:Prop} (h:p1∧p2∧p3∧p4∧p5∧p6∧QL lo wz cs W):QL lo wz cs W:=h.2.2.2.2.2.2
theorem QL.full {lo:Nat} {wz W W':World} {cs:List (Nat × Nat × Value)} (h:QL lo wz cs W) (hl:∀ p,p ∈ cs→p.1 < wz.heap.size) (hlo:lo≤wz.heap.size) (hb:Below W.heap.size W W'):QL lo wz cs W':=
 ⟨fun p hp=>(hb.cell (p:=⟨p.1,p.2.1,none⟩) (Nat.lt_of_lt_of_le (hl p hp) h.2.size)).trans (h.1 p hp),h.2.trans (hb.mono (Nat.le_trans hlo h.2.size))⟩
theorem QL.grown {lo:Nat} {wz W W':World} {cs:List (Nat × Nat × Value)} {k:Option Nat} (h:QL lo wz cs W) (hl:∀ p,p ∈ cs→p.1 < wz.heap.size) (hne:∀ g,k=some g→lo≤g∧∀ p,p ∈ cs→p.1 ≠ g) (hlo:lo≤wz.heap.size) (hg:W.grownBy W' k):QL lo wz cs W':=by
 refine ⟨fun p hp=>?_,h.2.trans (below_grown (B:=lo) (Below.refl lo _) hg (Nat.le_trans hlo h.2.size) (fun b hb=>(hne b hb).1))⟩
 refine (World.cell?_of_block (a:=⟨p.1,p.2.1,none⟩) (hg.block p.1 (Nat.lt_of_lt_of_le (hl p hp) h.2.size) (fun e=>?_))).trans (h.1 p hp)
 exact (hne p.1 e.symm).2 p hp rfl
theorem map_on {w w':World} {b n:Nat} {D:DataW Unit} (h:w.ownsMap Tryz.prog 9 R0 b n D) (hb:Below w.heap.size w w'):w'.ownsMap Tryz.prog 9 R0 b n D:=h.kept (row:=none) ⟨hb.os,hb.tape,hb.output,hb.size,fun k hk _=>hb.block k hk⟩ (by simp)
theorem qmfld_written {lo:Nat} {wz W:World} {a1 b1 a2 b2 a3 b3 a4 b4 a5 b5 a6 b6:Nat} {v1 v2 v3 v4 v5 v6:Value} (h:QL lo wz [(a1,b1,v1),(a2,b2,v2),(a3,b3,v3),(a4,b4,v4),(a5,b5,v5),(a6,b6,v6)] W) :
  W.cell? ⟨a1,b1,none⟩=some v1∧W.cell? ⟨a2,b2,none⟩=some v2∧W.cell? ⟨a3,b3,none⟩=some v3∧W.cell? ⟨a4,b4,none⟩=some v4∧W.cell? ⟨a5,b5,none⟩=some v5∧W.cell? ⟨a6,b6,none⟩=some v6∧QL lo wz [(a1,b1,v1),(a2,b2,v2),(a3,b3,v3),(a4,b4,v4),(a5,b5,v5),(a6,b6,v6)] W:=
 ⟨h.1 (a1,b1,v1) (by simp),h.1 (a2,b2,v2) (by simp),h.1 (a3,b3,v3) (by simp),h.1 (a4,b4,v4) (by simp),h.1 (a5,b5,v5) (by simp),h.1 (a6,b6,v6) (by simp),h⟩
theorem qmfld_last {lo:Nat} {wz W:World} {cs:List (Nat × Nat × Value)} {p1 p2 p3 p4 p5 p6:Prop} (h:p1∧p2∧p3∧p4∧p5∧p6∧QL lo wz cs W):QL lo wz cs W:=h.2.2.2.2.2.2
theorem qmpar_written {lo:Nat} {wz W:World} {a1 b1 a2 b2 a3 b3 a4 b4 a5 b5 a6 b6 a7 b7 a8 b8 a9 b9 a10 b10:Nat} {v1 v2 v3 v4 v5 v6 v7 v8 v9 v10:Value} (h:QL lo wz [(a1,b1,v1),(a2,b2,v2),(a3,b3,v3),(a4,b4,v4),(a5,b5,v5),(a6,b6,v6),(a7,b7,v7),(a8,b8,v8),(a9,b9,v9),(a10,b10,v10)] W) :
  W.cell? ⟨a1,b1,none⟩=some v1∧W.cell? ⟨a2,b2,none⟩=some v2∧W.cell? ⟨a3,b3,none⟩=some v3∧W.cell? ⟨a4,b4,none⟩=some v4∧W.cell? ⟨a5,b5,none⟩=some v5∧W.cell? ⟨a6,b6,none⟩=some v6∧W.cell? ⟨a7,b7,none⟩=some v7∧W.cell? ⟨a8,b8,none⟩=some v8∧W.cell? ⟨a9,b9,none⟩=some v9∧W.cell? ⟨a10,b10,none⟩=some v10∧QL lo wz [(a1,b1,v1),(a2,b2,v2),(a3,b3,v3),(a4,b4,v4),(a5,b5,v5),(a6,b6,v6),(a7,b7,v7),(a8,b8,v8),(a9,b9,v9),(a10,b10,v10)] W:=
 ⟨h.1 (a1,b1,v1) (by simp),h.1 (a2,b2,v2) (by simp),h.1 (a3,b3,v3) (by simp),h.1 (a4,b4,v4) (by simp),h.1 (a5,b5,v5) (by simp),h.1 (a6,b6,v6) (by simp),h.1 (a7,b7,v7) (by simp),h.1 (a8,b8,v8) (by simp),h.1 (a9,b9,v9) (by simp),h.1 (a10,b10,v10) (by simp),h⟩
theorem qmpar_last {lo:Nat} {wz W:World} {cs:List (Nat × Nat × Value)} {p1 p2 p3 p4 p5 p6 p7 p8 p9 p10:Prop} (h:p1∧p2∧p3∧p4∧p5∧p6∧p7∧p8∧p9∧p10∧QL lo wz cs W):QL lo wz cs W:=h.2.2.2.2.2.2.2.2.2.2
theorem bynameStr_any (fn:Nat) (nmf:ByteArray→ByteArray) (l:List ByteArray) (A:Option Addr) (c:Nat) (w:World) (B:Nat) (hB:B≤w.heap.size) (hl:l.length < maxLen) (hR:RowT w (fun b=>b < B) (rowOf encStr l) A)
  (he:∀ (args:Array Value) (w:World),(callFunc fn args).run Tryz.prog w=.ok (.enter fn args) w) (hf:∀ x,x ∈ l→∀ W:World,Below w.heap.size w W→Calls Tryz.prog fn #[.string x] W fun e W'=>e=.returned (.string (nmf x))∧Below W.heap.size W W') (hs:∀ x,x ∈ l→(nmf x).size≤maxLen) :
  Calls Tryz.prog 109 #[.slice A l.length c,.func (.func fn) #[] #[]] w fun e w'=>e=.returned (.map (some w.heap.size))∧(∃ D,w'.ownsMap Tryz.prog 9 R0 w.heap.size l.length D∧KeysD D (onceL (l.map nmf)))∧Below w.heap.size w w':=by
 have hmm:=fun (n:Int) (w:World)=>run_makeMapN (P:=Tryz.prog) Tryz.underlying117 n w
 have HR:=Hd hR
 have HF:=Hd hf
 have HB:=Hd hB
 have HS:=Hd hs
 have HZ:=Hd hl
 have hl':l.length≤9223372036854775807:=by unfold maxLen at hl;omega
 have B0:=Hd (dbelow_new w (.map #[] 0))
 have M0:=Hd (World.ownsMap_made w Tryz.prog 9 R0)
 clear hR hf hB hs hl
 go_enter Tryz.func109,Tryz.ntmps109
 go_wp2_with fail
 clear hmm
 go_loopg [13] l.length (fun g i wx=>∃ q:Nat,q+g=l.length∧i=.int .i64 q∧Aside ((∃ D:DataW Unit,wx.ownsMap Tryz.prog 9 R0 w.heap.size q D∧KeysD D (onceL ((l.map nmf).take q)))∧Below w.heap.size w wx))
 case atStart=>exact ⟨0,by omega,rfl,Blk.Aside.intro ⟨⟨_,M0.out,KeysD.nil⟩,B0.out⟩⟩
 case round =>
  obtain ⟨q,hq,rfl,HX⟩:=hrel
  obtain ⟨⟨D,hm,hD⟩,hb⟩:=HX.out
  have HM:=Hd hm
  have HD:=Hd hD
  have BX:=Hd hb
  clear HX hb hm hD
  cases gk with
  | zero =>
    obtain rfl:q=l.length:=by omega
    have HD':=HD.out
    rw [List.take_of_length_le (by simp)] at HD'
    have HD2:=Hd HD'
    clear HD' HD
    go_wp2_with fail
    go_ret
    exact ⟨rfl,⟨D,HM.out,HD2.out⟩,BX.out⟩
  | succ g =>
    have hqn:q < l.length:=by omega
    have hqn':(q:Int) < (l.length:Int):=by omega
    obtain ⟨x,hx⟩:∃ x,l[q]? = some x:=⟨_,List.getElem?_eq_getElem hqn⟩
    have hxn:(l.map nmf)[q]? = some (nmf x):=by rw [List.getElem?_map,hx];rfl
    have hkey:=WideMaps.keyOf_string_mk (P:=Tryz.prog) Tryz.underlying9 (s:=nmf x) (HS.out x (List.mem_of_getElem? hx))
    have HK:=Hd (once_take hxn)
    have HMAX:q < maxLen:=by have:=HZ.out;omega
    obtain ⟨b,o,cs,rfl,hb,hc,hT⟩:=rowOf_at 1 len_str HR.out hx
    have HBL:=Hd (Nat.lt_of_lt_of_le hb HB.out)
    have hT':=TS.low (BX.out.mono HB.out) hT
    obtain ⟨rfl,_⟩:=str_one hT
    have h0:w.cell? ⟨b,o+q,none⟩=some (.string x):=by have h:=hc 0 _ rfl;rw [Nat.mul_one] at h;exact h
    have g0:=(BX.out.cell (p:=⟨b,o+q,none⟩) HBL.out).trans h0
    clear h0
    have CF:=Hd (HF.out x (List.mem_of_getElem? hx) _ BX.out)
    generalize nmf x=nx at CF HK hkey
    clear hx hxn hb hT hT' hc
    go_wp2_with fail
    refine CF.out.mono ?_
    rintro e w3 ⟨rfl,hb3⟩
    have B3:=Hd (BX.out.trans (hb3.mono BX.out.size))
    have M3:=Hd (map_on HM.out hb3)
    clear hb3 g0 HM BX
    go_wp2_with (at_mapUpdate;refine wpList_mapUpdate_own _ rfl _ _ _ 117 rfl 9 _ (Maps.string_keyed Tryz.underlying9) Tryz.underlying117 R0 w.heap.size q D rfl M3.out HMAX _ _ _ rfl rfl hkey (.lit (.bool true)) [] rfl ?_;intro w1 hm1 hg1;have HM1:=Hd hm1;have HG1:=Hd hg1;clear hm1 hg1)
    have B1:=Hd (below_grown (B:=w.heap.size) B3.out HG1.out B3.out.size (fun b hb=>by injection hb with hb;omega))
    go_roundg g
    case measure=>omega
    case rel=>exact ⟨q+1,by omega,by go_num,Blk.Aside.intro ⟨⟨_,HM1.out,by rw [HK.out];exact HD.out.put nx⟩,B1.out⟩⟩
end Go.Proofs.YtaekdfcpbepepaaGreatDoor
