/- schema.Rule and schema.Check, given what the nine rules answer. (gen_check.py wrote it.) -/
import Derived.Test.YtaekdfcpbepepaaGreatDoorQb28
set_option maxRecDepth 100000
set_option maxHeartbeats 8000000
namespace Go.Proofs.YtaekdfcpbepepaaGreatDoor
open Go.RowKit
structure RulesC (A:Option Addr) (nd k:Nat) (qy mt:ByteArray) (b:Nat→Bool) (w:World):Prop where
 r1:∀ wx,Below w.heap.size w wx→Calls Tryz.prog 54 #[.agg #[.slice A nd k,.string qy,.string mt]] wx fun e w'=>e=.returned (.bool (b 1))∧Below wx.heap.size wx w'
 r2:∀ wx,Below w.heap.size w wx→Calls Tryz.prog 55 #[.agg #[.slice A nd k,.string qy,.string mt]] wx fun e w'=>e=.returned (.bool (b 2))∧Below wx.heap.size wx w'
 r3:∀ wx,Below w.heap.size w wx→Calls Tryz.prog 56 #[.agg #[.slice A nd k,.string qy,.string mt]] wx fun e w'=>e=.returned (.bool (b 3))∧Below wx.heap.size wx w'
 r4:∀ wx,Below w.heap.size w wx→Calls Tryz.prog 57 #[.agg #[.slice A nd k,.string qy,.string mt]] wx fun e w'=>e=.returned (.bool (b 4))∧Below wx.heap.size wx w'
 r5:∀ wx,Below w.heap.size w wx→Calls Tryz.prog 58 #[.agg #[.slice A nd k,.string qy,.string mt]] wx fun e w'=>e=.returned (.bool (b 5))∧Below wx.heap.size wx w'
 r6:∀ wx,Below w.heap.size w wx→Calls Tryz.prog 59 #[.agg #[.slice A nd k,.string qy,.string mt]] wx fun e w'=>e=.returned (.bool (b 6))∧Below wx.heap.size wx w'
 r7:∀ wx,Below w.heap.size w wx→Calls Tryz.prog 60 #[.agg #[.slice A nd k,.string qy,.string mt]] wx fun e w'=>e=.returned (.bool (b 7))∧Below wx.heap.size wx w'
 r8:∀ wx,Below w.heap.size w wx→Calls Tryz.prog 61 #[.agg #[.slice A nd k,.string qy,.string mt]] wx fun e w'=>e=.returned (.bool (b 8))∧Below wx.heap.size wx w'
 r9:∀ wx,Below w.heap.size w wx→Calls Tryz.prog 62 #[.agg #[.slice A nd k,.string qy,.string mt]] wx fun e w'=>e=.returned (.bool (b 9))∧Below wx.heap.size wx w'
def ruleN (b:Nat→Bool) (n:Int):Bool:=if n=1 then b 1 else if n=2 then b 2 else if n=3 then b 3 else if n=4 then b 4 else if n=5 then b 5 else if n=6 then b 6 else if n=7 then b 7 else if n=8 then b 8 else if n=9 then b 9 else false
def firstN (b:Nat→Bool):Nat→Nat→Int
 | 0,_=>0
 | f+1,n=>if b n=true then firstN b f (n+1) else (n:Int)
def checkN (b:Nat→Bool):Int:=firstN b 9 1
theorem rule_any (A:Option Addr) (nd k:Nat) (qy mt:ByteArray) (b:Nat→Bool) (n:Int) (w0 w:World) (hr:RulesC A nd k qy mt b w0) (h0:Below w0.heap.size w0 w) :
   Calls Tryz.prog 31 #[.agg #[.slice A nd k,.string qy,.string mt],.int .i64 n] w fun e w'=>e=.returned (.bool (ruleN b n))∧Below w.heap.size w w':=by
 have B1:=Hd (dbelow_new w (.cells #[.slice A nd k,.string qy,.string mt] 24))
 have Y1:=Hd (heap_alloc_new w (.cells #[.slice A nd k,.string qy,.string mt] 24))
 have H1:=Hd (h0.trans (B1.out.mono h0.size))
 have HR:=Hd hr
 have HE:Hid (ruleN b n=if n=1 then b 1 else if n=2 then b 2 else if n=3 then b 3 else if n=4 then b 4 else if n=5 then b 5 else if n=6 then b 6 else if n=7 then b 7 else if n=8 then b 8 else if n=9 then b 9 else false):=Hd rfl
 generalize ruleN b n=r at HE ⊢
 clear hr h0
 go_enter Tryz.func31,Tryz.ntmps31
 go_upto_region 1 with fail
 generalize w.alloc (.cells #[.slice A nd k,.string qy,.string mt] 24)=w1 at B1 Y1 H1 ⊢
 obtain ⟨y0,y1,y2⟩:=three_cells Y1.out
 cases e1:(n == 1) with
 | true =>
   have hn:n=1:=eq_of_beq e1
   have HK:Hid (r=b 1):=Hd (HE.out.trans (by rw [hn];rfl))
   have CR:=Hd (HR.out.r1 _ H1.out)
   generalize b 1=v at HK CR
   clear hn
   go_wp2_with fail
   refine CR.out.mono ?_
   rintro e w2 ⟨rfl,hb⟩
   have B2:=Hd (B1.out.trans (hb.mono B1.out.size))
   clear hb
   go_wp2_with fail
   go_ret
   exact ⟨by rw [HK.out];rfl,B2.out⟩
 | false =>
 cases e2:(n == 2) with
 | true =>
   have hn:n=2:=eq_of_beq e2
   have HK:Hid (r=b 2):=Hd (HE.out.trans (by rw [hn];rfl))
   have CR:=Hd (HR.out.r2 _ H1.out)
   generalize b 2=v at HK CR
   clear hn
   go_wp2_with fail
   refine CR.out.mono ?_
   rintro e w2 ⟨rfl,hb⟩
   have B2:=Hd (B1.out.trans (hb.mono B1.out.size))
   clear hb
   go_wp2_with fail
   go_ret
   exact ⟨by rw [HK.out];rfl,B2.out⟩
 | false =>
 cases e3:(n == 3) with
 | true =>
   have hn:n=3:=eq_of_beq e3
   have HK:Hid (r=b 3):=Hd (HE.out.trans (by rw [hn];rfl))
   have CR:=Hd (HR.out.r3 _ H1.out)
   generalize b 3=v at HK CR
   clear hn
   go_wp2_with fail
   refine CR.out.mono ?_
   rintro e w2 ⟨rfl,hb⟩
   have B2:=Hd (B1.out.trans (hb.mono B1.out.size))
   clear hb
   go_wp2_with fail
   go_ret
   exact ⟨by rw [HK.out];rfl,B2.out⟩
 | false =>
 cases e4:(n == 4) with
 | true =>
   have hn:n=4:=eq_of_beq e4
   have HK:Hid (r=b 4):=Hd (HE.out.trans (by rw [hn];rfl))
   have CR:=Hd (HR.out.r4 _ H1.out)
   generalize b 4=v at HK CR
   clear hn
   go_wp2_with fail
   refine CR.out.mono ?_
   rintro e w2 ⟨rfl,hb⟩
   have B2:=Hd (B1.out.trans (hb.mono B1.out.size))
   clear hb
   go_wp2_with fail
   go_ret
   exact ⟨by rw [HK.out];rfl,B2.out⟩
 | false =>
 cases e5:(n == 5) with
 | true =>
   have hn:n=5:=eq_of_beq e5
   have HK:Hid (r=b 5):=Hd (HE.out.trans (by rw [hn];rfl))
   have CR:=Hd (HR.out.r5 _ H1.out)
   generalize b 5=v at HK CR
   clear hn
   go_wp2_with fail
   refine CR.out.mono ?_
   rintro e w2 ⟨rfl,hb⟩
   have B2:=Hd (B1.out.trans (hb.mono B1.out.size))
   clear hb
   go_wp2_with fail
   go_ret
   exact ⟨by rw [HK.out];rfl,B2.out⟩
 | false =>
 cases e6:(n == 6) with
 | true =>
   have hn:n=6:=eq_of_beq e6
   have HK:Hid (r=b 6):=Hd (HE.out.trans (by rw [hn];rfl))
   have CR:=Hd (HR.out.r6 _ H1.out)
   generalize b 6=v at HK CR
   clear hn
   go_wp2_with fail
   refine CR.out.mono ?_
   rintro e w2 ⟨rfl,hb⟩
   have B2:=Hd (B1.out.trans (hb.mono B1.out.size))
   clear hb
   go_wp2_with fail
   go_ret
   exact ⟨by rw [HK.out];rfl,B2.out⟩
 | false =>
 cases e7:(n == 7) with
 | true =>
   have hn:n=7:=eq_of_beq e7
   have HK:Hid (r=b 7):=Hd (HE.out.trans (by rw [hn];rfl))
   have CR:=Hd (HR.out.r7 _ H1.out)
   generalize b 7=v at HK CR
   clear hn
   go_wp2_with fail
   refine CR.out.mono ?_
   rintro e w2 ⟨rfl,hb⟩
   have B2:=Hd (B1.out.trans (hb.mono B1.out.size))
   clear hb
   go_wp2_with fail
   go_ret
   exact ⟨by rw [HK.out];rfl,B2.out⟩
 | false =>
 cases e8:(n == 8) with
 | true =>
   have hn:n=8:=eq_of_beq e8
   have HK:Hid (r=b 8):=Hd (HE.out.trans (by rw [hn];rfl))
   have CR:=Hd (HR.out.r8 _ H1.out)
   generalize b 8=v at HK CR
   clear hn
   go_wp2_with fail
   refine CR.out.mono ?_
   rintro e w2 ⟨rfl,hb⟩
   have B2:=Hd (B1.out.trans (hb.mono B1.out.size))
   clear hb
   go_wp2_with fail
   go_ret
   exact ⟨by rw [HK.out];rfl,B2.out⟩
 | false =>
 cases e9:(n == 9) with
 | true =>
   have hn:n=9:=eq_of_beq e9
   have HK:Hid (r=b 9):=Hd (HE.out.trans (by rw [hn];rfl))
   have CR:=Hd (HR.out.r9 _ H1.out)
   generalize b 9=v at HK CR
   clear hn
   go_wp2_with fail
   refine CR.out.mono ?_
   rintro e w2 ⟨rfl,hb⟩
   have B2:=Hd (B1.out.trans (hb.mono B1.out.size))
   clear hb
   go_wp2_with fail
   go_ret
   exact ⟨by rw [HK.out];rfl,B2.out⟩
 | false =>
 have HK:Hid (r=false):=Hd (HE.out.trans (by
   simp only [beq_eq_false_iff_ne] at e1 e2 e3 e4 e5 e6 e7 e8 e9
   rw [if_neg e1,if_neg e2,if_neg e3,if_neg e4,if_neg e5,if_neg e6,if_neg e7,if_neg e8,if_neg e9]))
 go_wp2_with fail
 go_ret
 exact ⟨by rw [HK.out];rfl,B1.out⟩
theorem firstN_at (b:Nat→Bool) (q:Nat) (h:q < 9):firstN b (9 - q) (q+1)=if b (q+1)=true then firstN b (9 - (q+1)) (q+2) else ((q+1:Nat):Int):=by
 rw [show 9 - q=(9 - (q+1))+1 by omega,firstN]
theorem ruleN_at (b:Nat→Bool) (q:Nat) (h:q < 9):ruleN b ((q+1:Nat):Int)=b (q+1):=by
 have:q=0∨q=1∨q=2∨q=3∨q=4∨q=5∨q=6∨q=7∨q=8:=by omega
 rcases this with rfl|rfl|rfl|rfl|rfl|rfl|rfl|rfl|rfl<;>rfl
theorem check_any (A:Option Addr) (nd k:Nat) (qy mt:ByteArray) (b:Nat→Bool) (w:World) (hr:RulesC A nd k qy mt b w) :
  Calls Tryz.prog 14 #[.agg #[.slice A nd k,.string qy,.string mt]] w fun e w'=>e=.returned (.int .i64 (checkN b))∧Below w.heap.size w w':=by
 have B1:=Hd (dbelow_new w (.cells #[.slice A nd k,.string qy,.string mt] 24))
 have Y1:=Hd (heap_alloc_new w (.cells #[.slice A nd k,.string qy,.string mt] 24))
 have HR:=Hd (fun (n:Int) (wx:World) (h:Below w.heap.size w wx)=>rule_any A nd k qy mt b n w wx hr h)
 have HE:Hid (checkN b=firstN b (9 - 0) (0+1)):=Hd rfl
 generalize checkN b=r at HE ⊢
 clear hr
 go_enter Tryz.func14,Tryz.ntmps14
 go_upto_region 1 with fail
 generalize w.alloc (.cells #[.slice A nd k,.string qy,.string mt] 24)=w1 at B1 Y1 ⊢
 go_wp2_with fail
 go_loopg [3] 9 (fun g i wx=>∃ q:Nat,q+g=9∧i=.int .i64 ((q+1:Nat):Int)∧Aside (r=firstN b (9 - q) (q+1)∧Below w.heap.size w wx∧wx.heap[w.heap.size]? = some (.cells #[.slice A nd k,.string qy,.string mt] 24 (0,0))))
 case atStart=>exact ⟨0,by omega,rfl,Blk.Aside.intro ⟨HE.out,B1.out,Y1.out⟩⟩
 case round =>
  obtain ⟨q,hq,rfl,HX⟩:=hrel
  have HI:=Hd HX.out.1
  have BX:=Hd HX.out.2.1
  have YX:=Hd HX.out.2.2
  clear HX B1 Y1 HE
  cases gk with
  | zero =>
    obtain rfl:q=9:=by omega
    have HK:Hid (r=0):=Hd (HI.out.trans rfl)
    go_wp2_with fail
    go_ret
    exact ⟨by rw [HK.out];rfl,BX.out⟩
  | succ g =>
    have hqn:q < 9:=by omega
    have hqn':((q+1:Nat):Int)≤9:=by omega
    have HN:=Hd (HI.out.trans (firstN_at b q hqn))
    have CR:=Hd (HR.out ((q+1:Nat):Int))
    rw [ruleN_at b q hqn] at CR
    generalize b (q+1)=v at CR HN
    clear HI
    obtain ⟨z,hz⟩:∃ z:Int,((q+1:Nat):Int)=z:=⟨_,rfl⟩
    rw [hz] at CR hqn' HN ⊢
    have HZ:=Hd hz
    clear hz
    obtain ⟨y0,y1,y2⟩:=three_cells YX.out
    go_wp2_with fail
    refine (CR.out _ BX.out).mono ?_
    rintro e w2 ⟨rfl,hb⟩
    have B2:=Hd (BX.out.trans (hb.mono BX.out.size))
    have Y2:=Hd ((hb.block _ (Array.getElem?_eq_some_iff.1 YX.out).1).trans YX.out)
    clear hb y0 y1 y2 BX YX
    cases v with
    | false =>
      have HK:Hid (r=z):=Hd (HN.out.trans (if_neg (by decide)))
      go_wp2_with fail
      go_ret
      exact ⟨by rw [HK.out];rfl,B2.out⟩
    | true =>
      have HK:=Hd (HN.out.trans (if_pos rfl))
      have hz1:IntKind.i64.wrap (z+1)=((q+1+1:Nat):Int):=by have:=HZ.out;simp only [IntKind.wrap_i64];omega
      go_wp2_with fail
      go_roundg g
      case measure=>omega
      case rel=>exact ⟨q+1,by omega,by first|(rw [hz1])|(go_num),Blk.Aside.intro ⟨HK.out,B2.out,Y2.out⟩⟩
def namOkB (d:DefnT):Bool:=!(resB d.name || leafD [] d.name)
noncomputable def rule1B (S:SchT):Bool:=S.defs.all namOkB && (schB S && diffB (S.defs.map fun x=>x.name))
theorem rule1_any (S:SchT) (hm:ModS S) (hp:PartS S) (hlen:S.defs.length < maxLen) (hnz:∀ d,d ∈ S.defs→d.name.size≤maxLen) (c0 c1 c2:Value) (w:World) (B:Nat) (hB:B≤w.heap.size) (hS:TS w (fun b=>b < B) (encSch S) [c0,c1,c2]) (hw:Laid5 w) :
  Calls Tryz.prog 54 #[.agg #[c0,c1,c2]] w fun e w'=>e=.returned (.bool (rule1B S))∧Below w.heap.size w w':=by
 have SR1:=Hd (fun (wx:World) (hb:Below w.heap.size w wx)=>sdl_right S hm hp c0 c1 c2 wx B (Nat.le_trans hB hb.size) (TS.low (hb.mono hB) hS) (hw.below hb))
 obtain ⟨A,k,e,hl,hR⟩:=sch_cells hS
 injection e with e0 e
 injection e with e1 e
 injection e with e2 e
 subst e0 e1 e2
 have DF:=Hd (fun (wx:World) (hb:Below w.heap.size w wx)=>differDef_any S.defs A k wx B (Nat.le_trans hB hb.size) hlen (RowT.below (hb.mono hB) hR) hnz)
 have HR:=Hd hR
 have HB:=Hd hB
 have B1:=Hd (dbelow_new w (.cells #[.slice A S.defs.length k,.string S.query,.string S.mutation] 24))
 have Y1:=Hd (heap_alloc_new w (.cells #[.slice A S.defs.length k,.string S.query,.string S.mutation] 24))
 have HE:Hid (rule1B S=(S.defs.all namOkB && (schB S && diffB (S.defs.map fun x=>x.name)))):=Hd rfl
 generalize schB S=sb at SR1 HE
 generalize diffB (S.defs.map fun x=>x.name)=db at DF HE
 clear hB hS hR e hm hp hw hnz hlen
 go_enter Tryz.func54,Tryz.ntmps54
 go_upto_region 1 with fail
 generalize w.alloc (.cells #[.slice A S.defs.length k,.string S.query,.string S.mutation] 24)=w1 at B1 Y1 ⊢
 obtain ⟨y0,y1,y2⟩:=three_cells Y1.out
 go_wp2_with fail
 go_loopg [8] S.defs.length (fun g i wx=>∃ q:Nat,q+g=S.defs.length∧i=.int .i64 q∧Aside ((S.defs.take q).all namOkB=true∧Below w.heap.size w wx∧wx.heap[w.heap.size]? = some (.cells #[.slice A S.defs.length k,.string S.query,.string S.mutation] 24 (0,0))))
 case atStart=>exact ⟨0,by omega,rfl,Blk.Aside.intro ⟨rfl,B1.out,Y1.out⟩⟩
 case round =>
  obtain ⟨q,hq,rfl,HX⟩:=hrel
  have HI:=Hd HX.out.1
  have BX:=Hd HX.out.2.1
  have YX:=Hd HX.out.2.2
  clear HX B1 Y1 y0 y1 y2
  cases gk with
  | zero =>
    obtain rfl:q=S.defs.length:=by omega
    have HA:=Hd (all_take_end HI.out)
    obtain ⟨y0,y1,y2⟩:=three_cells YX.out
    go_wp2_with fail
    refine (SR1.out _ BX.out).mono ?_
    rintro e w2 ⟨rfl,hb⟩
    have B2:=Hd (BX.out.trans (hb.mono BX.out.size))
    have Y2:=Hd ((hb.block _ (Array.getElem?_eq_some_iff.1 YX.out).1).trans YX.out)
    clear hb y0 y1 y2 YX BX
    cases sb with
    | false =>
      go_wp2_with fail
      go_ret
      exact ⟨by rw [HE.out,HA.out];rfl,B2.out⟩
    | true =>
      obtain ⟨y0,y1,y2⟩:=three_cells Y2.out
      go_wp2_with fail
      refine (DF.out _ B2.out).mono ?_
      rintro e w3 ⟨rfl,hb⟩
      have B3:=Hd (B2.out.trans (hb.mono B2.out.size))
      clear hb y0 y1 y2 Y2
      go_wp2_with fail
      go_ret
      exact ⟨by rw [HE.out,HA.out];rfl,B3.out⟩
  | succ g =>
    have hqn:q < S.defs.length:=by omega
    have hqn':(q:Int) < (S.defs.length:Int):=by omega
    obtain ⟨d,hx⟩:∃ x,S.defs[q]? = some x:=⟨_,List.getElem?_eq_getElem hqn⟩
    obtain ⟨b,o,cs,rfl,hb,hc,hT⟩:=rowOf_at 6 defn_len HR.out hx
    have HBL:=Hd (Nat.lt_of_lt_of_le hb HB.out)
    obtain ⟨Af,kf,Ax,kx,Ap,kp,Am,km,rfl,hdn,_⟩:=defn_cells hT
    have g0:=(BX.out.cell (p:=⟨b,o+q*6,none⟩) HBL.out).trans (hc 0 _ rfl)
    have g1:=(BX.out.cell (p:=⟨b,o+q*6+1,none⟩) HBL.out).trans (hc 1 _ rfl)
    have g2:=(BX.out.cell (p:=⟨b,o+q*6+2,none⟩) HBL.out).trans (hc 2 _ rfl)
    have g3:=(BX.out.cell (p:=⟨b,o+q*6+3,none⟩) HBL.out).trans (hc 3 _ rfl)
    have g4:=(BX.out.cell (p:=⟨b,o+q*6+4,none⟩) HBL.out).trans (hc 4 _ rfl)
    have g5:=(BX.out.cell (p:=⟨b,o+q*6+5,none⟩) HBL.out).trans (hc 5 _ rfl)
    have HN:=Hd (fun h=>all_take_next (p:=namOkB) HI.out hx h)
    have HM:=Hd (fun h=>all_take_no (p:=namOkB) hx h)
    have HU:Hid (namOkB d = !(resB d.name || leafD [] d.name)):=Hd rfl
    have RE:=Hd (fun (wx:World)=>reserved_any d.name wx)
    have SC:=Hd (fun (wx:World)=>scalar_any d.name wx hdn)
    generalize namOkB d=ud at HN HM HU
    generalize resB d.name=rb at HU RE
    generalize leafD [] d.name=lb at HU SC
    clear hx hb hc hT
    go_upto_region 4 with fail
    clear g0 g1 g2 g3 g4 g5
    have bn:=dbelow_new wr (.cells #[.int .i64 d.kind,.string d.name,.slice Af d.faces.length kf,.slice Ax d.fields.length kx,.slice Ap d.parts.length kp,.slice Am d.params.length km] 37)
    have B2:=Hd (BX.out.trans (bn.mono BX.out.size))
    have Y2:=Hd (heap_alloc_new wr (.cells #[.int .i64 d.kind,.string d.name,.slice Af d.faces.length kf,.slice Ax d.fields.length kx,.slice Ap d.parts.length kp,.slice Am d.params.length km] 37))
    have S2:=Hd ((bn.block _ (Array.getElem?_eq_some_iff.1 YX.out).1).trans YX.out)
    generalize wr.alloc (.cells #[.int .i64 d.kind,.string d.name,.slice Af d.faces.length kf,.slice Ax d.fields.length kx,.slice Ap d.parts.length kp,.slice Am d.params.length km] 37)=w2 at B2 Y2 S2 bn ⊢
    generalize wr.heap.size=g4 at Y2 ⊢
    clear bn BX YX
    obtain ⟨⟨y0,y1,y2,y3,y4,y5⟩,_⟩:=six_cells Y2.out
    go_wp2_with fail
    refine (RE.out _).mono ?_
    rintro e w3 ⟨rfl,hb⟩
    have B3:=Hd (B2.out.trans (hb.mono B2.out.size))
    have Y3:=Hd ((hb.block _ (Array.getElem?_eq_some_iff.1 Y2.out).1).trans Y2.out)
    have S3:=Hd ((hb.block _ (Array.getElem?_eq_some_iff.1 S2.out).1).trans S2.out)
    clear hb y0 y1 y2 y3 y4 y5 Y2 B2 S2
    cases rb with
    | true =>
      have HA:=Hd (HM.out HU.out)
      go_wp2_with fail
      go_ret
      exact ⟨by rw [HE.out,HA.out];rfl,B3.out⟩
    | false =>
      obtain ⟨⟨y0,y1,y2,y3,y4,y5⟩,_⟩:=six_cells Y3.out
      go_wp2_with fail
      refine (SC.out _).mono ?_
      rintro e w4 ⟨rfl,hb⟩
      have B4:=Hd (B3.out.trans (hb.mono B3.out.size))
      have S4:=Hd ((hb.block _ (Array.getElem?_eq_some_iff.1 S3.out).1).trans S3.out)
      clear hb y0 y1 y2 y3 y4 y5 Y3 B3 S3
      cases lb with
      | true =>
        have HA:=Hd (HM.out HU.out)
        go_wp2_with fail
        go_ret
        exact ⟨by rw [HE.out,HA.out];rfl,B4.out⟩
      | false =>
        have HA:=Hd (HN.out HU.out)
        go_wp2_with fail
        go_roundg g
        case measure=>omega
        case rel=>exact ⟨q+1,by omega,by go_num,Blk.Aside.intro ⟨HA.out,B4.out,S4.out⟩⟩
def rule2B (S:SchT):Bool:=isaB S.defs S.query 1 && ((S.mutation.toList == []) || ((S.mutation.toList != S.query.toList) && isaB S.defs S.mutation 1))
theorem rule2_any (S:SchT) (c0 c1 c2:Value) (w:World) (B:Nat) (hB:B≤w.heap.size) (hz:SlimS S) (hS:TS w (fun b=>b < B) (encSch S) [c0,c1,c2]) :
   Calls Tryz.prog 55 #[.agg #[c0,c1,c2]] w fun e w'=>e=.returned (.bool (rule2B S))∧Below w.heap.size w w':=by
 obtain ⟨hq,hm⟩:=sch_sizes hS
 have I1:=Hd (fun (wx:World) (hb:Below w.heap.size w wx)=>isa_any S S.query 1 c0 c1 c2 wx B (Nat.le_trans hB hb.size) hq hz (TS.low (hb.mono hB) hS))
 have I2:=Hd (fun (wx:World) (hb:Below w.heap.size w wx)=>isa_any S S.mutation 1 c0 c1 c2 wx B (Nat.le_trans hB hb.size) hm hz (TS.low (hb.mono hB) hS))
 obtain ⟨A,k,e,hl,hR⟩:=sch_cells hS
 injection e with e0 e
 injection e with e1 e
 injection e with e2 e
 subst e0 e1 e2
 have HE:Hid (rule2B S=(isaB S.defs S.query 1 && ((S.mutation.toList == []) || ((S.mutation.toList != S.query.toList) && isaB S.defs S.mutation 1)))):=Hd rfl
 generalize rule2B S=r at HE ⊢
 generalize isaB S.defs S.query 1=q1 at I1 HE
 generalize isaB S.defs S.mutation 1=q2 at I2 HE
 have B1:=Hd (dbelow_new w (.cells #[.slice A S.defs.length k,.string S.query,.string S.mutation] 24))
 have Y1:=Hd (heap_alloc_new w (.cells #[.slice A S.defs.length k,.string S.query,.string S.mutation] 24))
 obtain ⟨m0,hm0⟩:∃ b,(S.mutation.toList == [])=b:=⟨_,rfl⟩
 have hem:S.mutation.toList.isEmpty=m0:=by rw [← hm0];cases S.mutation.toList<;>rfl
 obtain ⟨mq,hmq⟩:∃ b,(S.mutation.toList == S.query.toList)=b:=⟨_,rfl⟩
 have hmq':(S.mutation.toList != S.query.toList) = !mq:=by rw [← hmq];rfl
 rw [hm0,hmq'] at HE
 clear hB hS hR hz e
 go_enter Tryz.func55,Tryz.ntmps55
 go_upto_region 1 with fail
 generalize w.alloc (.cells #[.slice A S.defs.length k,.string S.query,.string S.mutation] 24)=w1 at B1 Y1 ⊢
 obtain ⟨y0,y1,y2⟩:=three_cells Y1.out
 go_wp2_with fail
 refine (I1.out _ B1.out).mono ?_
 rintro e w2 ⟨rfl,hb⟩
 have B2:=Hd (B1.out.trans (hb.mono B1.out.size))
 have Y2:=Hd ((hb.block _ (Array.getElem?_eq_some_iff.1 Y1.out).1).trans Y1.out)
 clear hb y0 y1 y2 Y1
 cases q1 with
 | false =>
   go_wp2_with fail
   go_ret
   exact ⟨by rw [HE.out];rfl,B2.out⟩
 | true =>
   obtain ⟨y0,y1,y2⟩:=three_cells Y2.out
   cases m0 with
   | true =>
     go_wp2_with fail
     go_ret
     exact ⟨by rw [HE.out];rfl,B2.out⟩
   | false =>
     cases mq with
     | true =>
       go_wp2_with fail
       go_ret
       exact ⟨by rw [HE.out];rfl,B2.out⟩
     | false =>
       go_wp2_with fail
       refine (I2.out _ B2.out).mono ?_
       rintro e w3 ⟨rfl,hb⟩
       have B3:=Hd (B2.out.trans (hb.mono B2.out.size))
       clear hb y0 y1 y2 Y2
       go_wp2_with fail
       go_ret
       exact ⟨by rw [HE.out];rfl,B3.out⟩
attribute [local go_sem] Oper.semAt_some
theorem fields_any (A:Option Addr) (n k:Nat) (q m:ByteArray) (w:World) :
  Calls Tryz.prog 106 #[.agg #[.slice A n k,.string q,.string m]] w fun e w'=>e=.returned (.func (.func 152) #[] #[.pointer (some ⟨w.heap.size,0,none⟩)])∧w'=w.alloc (.cells #[.slice A n k,.string q,.string m] 24):=by
 go_enter Tryz.func106,Tryz.ntmps106
 go_wp2_with fail
 go_ret
 exact ⟨rfl,rfl⟩
theorem flat_end {α β:Type} (g:α→List β) (D:List α):((D.take D.length).flatMap g).length=(D.flatMap g).length:=by rw [List.take_length]
theorem fields_in (S:SchT) (sb B:Nat) (c0 c1 c2:Value) (X:Nat→Prop) (W:World) (hX:∀ b,X b→b < W.heap.size∧B≤b∧b ≠ sb) (hBW:B≤W.heap.size) (hbox:W.heap[sb]? = some (.cells #[c0,c1,c2] 24 (0,0))) (hS:TS W (fun b=>b < B) (encSch S) [c0,c1,c2]) :
  IterZ 152 #[.pointer (some ⟨sb,0,none⟩)] (allF S.defs).length (LiesF S.defs B) X W:=by
 intro l J Jx hJ _ hY hJ0
 have HJ:=Hd hJ
 have HY:=Hd hY
 have HJ0:=Hd hJ0
 have HX:=Hd hX
 have HB:=Hd hBW
 have HBX:=Hd hbox
 have HXB:Hid (∀ b,b < B→¬ X b):=Hd (fun b hb hx=>by have:=(hX b hx).2.1;omega)
 obtain ⟨A,k,e,hl,hR⟩:=sch_cells hS
 injection e with e0 e
 injection e with e1 e
 injection e with e2 e
 subst e0 e1 e2
 have HR:=Hd hR
 obtain ⟨y0,y1,y2⟩:=three_cells hbox
 clear hJ hY hJ0 hX hBW hbox hS hR e
 refine callsIn_wide.2 ?_
 rw [show (#[.func (.yield l) #[] #[]] ++ #[.pointer (some ⟨sb,0,none⟩)]:Array Value)=#[.func (.yield l) #[] #[],.pointer (some ⟨sb,0,none⟩)] from rfl]
 go_enter Tryz.func152,Tryz.ntmps152
 go_wp2_with fail
 clear y0 y1 y2
 go_loopg [10] S.defs.length (fun g i wx=>∃ q:Nat,q+g=S.defs.length∧i=.int .i64 q∧Aside (J ((S.defs.take q).flatMap fun d=>d.fields).length wx∧MoZ X W wx))
 case atStart=>exact ⟨0,by omega,rfl,Blk.Aside.intro ⟨HJ0.out,MoZ.refl⟩⟩
 case round =>
  obtain ⟨q,hq,rfl,hx⟩:=hrel
  have J1:=Hd hx.out.1
  have M1:=Hd hx.out.2
  clear hx
  cases gk with
  | zero =>
    obtain rfl:q=S.defs.length:=by omega
    have HF:=Hd J1.out
    rw [flat_end] at HF
    go_wp2_with fail
    go_end0
    exact ⟨⟨_,rfl⟩,.inl HF.out⟩
  | succ g =>
    have hqn:q < S.defs.length:=by omega
    have hqn':(q:Int) < (S.defs.length:Int):=by omega
    obtain ⟨d,hx⟩:∃ x,S.defs[q]? = some x:=⟨_,List.getElem?_eq_getElem hqn⟩
    obtain ⟨b,o,cs,rfl,hb,hc,hT⟩:=rowOf_at 6 defn_len HR.out hx
    have HBL:=Hd (Nat.lt_of_lt_of_le hb HB.out)
    have HBN:=Hd (HXB.out b hb)
    obtain ⟨Af,kf,Ax,kx,Ap,kp,Am,km,rfl,_,_,⟨hfl,hf⟩,_⟩:=defn_cells hT
    have g0:=(moz_cell M1.out (o:=o+q*6) HBL.out HBN.out).trans (hc 0 _ rfl)
    have g1:=(moz_cell M1.out (o:=o+q*6+1) HBL.out HBN.out).trans (hc 1 _ rfl)
    have g2:=(moz_cell M1.out (o:=o+q*6+2) HBL.out HBN.out).trans (hc 2 _ rfl)
    have g3:=(moz_cell M1.out (o:=o+q*6+3) HBL.out HBN.out).trans (hc 3 _ rfl)
    have g4:=(moz_cell M1.out (o:=o+q*6+4) HBL.out HBN.out).trans (hc 4 _ rfl)
    have g5:=(moz_cell M1.out (o:=o+q*6+5) HBL.out HBN.out).trans (hc 5 _ rfl)
    have HD:=Hd hx
    have HF:=Hd hf
    clear hx hb hc hT hf
    go_upto_region 3 with fail
    clear g0 g1 g2 g3 g4 g5
    have bn:=dbelow_new wr (.cells #[.int .i64 d.kind,.string d.name,.slice Af d.faces.length kf,.slice Ax d.fields.length kx,.slice Ap d.parts.length kp,.slice Am d.params.length km] 37)
    have J2:=Hd (HJ.out _ _ _ J1.out (bn.mono M1.out.size))
    have M2:=Hd (M1.out.trans (MoZ.of_below bn))
    have Y2:=Hd (heap_alloc_new wr (.cells #[.int .i64 d.kind,.string d.name,.slice Af d.faces.length kf,.slice Ax d.fields.length kx,.slice Ap d.parts.length kp,.slice Am d.params.length km] 37))
    have HSZ:=Hd M1.out.size
    generalize wr.alloc (.cells #[.int .i64 d.kind,.string d.name,.slice Af d.faces.length kf,.slice Ax d.fields.length kx,.slice Ap d.parts.length kp,.slice Am d.params.length km] 37)=w2 at J2 M2 Y2 ⊢
    generalize wr.heap.size=gd at Y2 HSZ ⊢
    clear bn J1 M1
    obtain ⟨⟨y0,y1,y2,y3,y4,y5⟩,_⟩:=six_cells Y2.out
    go_wp2_with fail
    clear y0 y1 y2 y3 y4 y5
    have HNX:Hid (¬ X gd):=Hd (fun hx=>by have h1:=(HX.out gd hx).1;have h2:=HSZ.out;omega)
    go_loopg [17] d.fields.length (fun g2 i wx=>∃ z:Nat,z+g2=d.fields.length∧i=.int .i64 z∧Aside (J (((S.defs.take q).flatMap fun d=>d.fields).length+z) wx∧MoZ X W wx))
    case atStart=>exact ⟨0,by omega,rfl,Blk.Aside.intro ⟨J2.out,M2.out⟩⟩
    case round =>
     obtain ⟨z,hz,rfl,hx⟩:=hrel
     have J3:=Hd hx.out.1
     have M3:=Hd hx.out.2
     clear hx J2 M2 Y2
     cases gk with
     | zero =>
       obtain rfl:z=d.fields.length:=by omega
       have J4:Hid (J ((S.defs.take (q+1)).flatMap fun d=>d.fields).length wr):=Hd (by rw [flat_next _ HD.out];exact J3.out)
       go_wp2_with fail
       go_roundg g
       case measure=>omega
       case rel=>exact ⟨q+1,by omega,by go_num,Blk.Aside.intro ⟨J4.out,M3.out⟩⟩
     | succ g2 =>
       have hzn:z < d.fields.length:=by omega
       have hzn':(z:Int) < (d.fields.length:Int):=by omega
       obtain ⟨f,hf⟩:∃ x,d.fields[z]? = some x:=⟨_,List.getElem?_eq_getElem hzn⟩
       obtain ⟨b2,o2,cs2,rfl,hb2,hc2,hT2⟩:=rowOf_at 6 len_fld HF.out hf
       have HL2:=Hd (Nat.lt_of_lt_of_le hb2 HB.out)
       have HN2:=Hd (HXB.out b2 hb2)
       have HAT:=Hd (flat_at (fun d:DefnT=>d.fields) HD.out hf)
       have HLT:=Hd (flat_lt (fun d:DefnT=>d.fields) HD.out hzn)
       obtain ⟨Bp,jp,Bd,jd,rfl,_⟩:=fld_cells hT2
       have g0:=(moz_cell M3.out (o:=o2+z*6) HL2.out HN2.out).trans (hc2 0 _ rfl)
       have g1:=(moz_cell M3.out (o:=o2+z*6+1) HL2.out HN2.out).trans (hc2 1 _ rfl)
       have g2:=(moz_cell M3.out (o:=o2+z*6+2) HL2.out HN2.out).trans (hc2 2 _ rfl)
       have g3:=(moz_cell M3.out (o:=o2+z*6+3) HL2.out HN2.out).trans (hc2 3 _ rfl)
       have g4:=(moz_cell M3.out (o:=o2+z*6+4) HL2.out HN2.out).trans (hc2 4 _ rfl)
       have g5:=(moz_cell M3.out (o:=o2+z*6+5) HL2.out HN2.out).trans (hc2 5 _ rfl)
       have HT:=Hd hT2
       clear hf hb2 hc2 hT2
       go_upto_region 6 with fail
       clear g0 g1 g2 g3 g4 g5
       have bn:=dbelow_new wr (.cells #[.string f.name,.slice Bp f.params.length jp,.string f.tn,.int .i64 f.tl,.int .i64 f.tm,.slice Bd f.dirs.length jd] 46)
       have J4:=Hd (HJ.out _ _ _ J3.out (bn.mono M3.out.size))
       have M4:=Hd (M3.out.trans (MoZ.of_below bn))
       have Y4:=Hd (heap_alloc_new wr (.cells #[.string f.name,.slice Bp f.params.length jp,.string f.tn,.int .i64 f.tl,.int .i64 f.tm,.slice Bd f.dirs.length jd] 46))
       generalize wr.alloc (.cells #[.string f.name,.slice Bp f.params.length jp,.string f.tn,.int .i64 f.tl,.int .i64 f.tm,.slice Bd f.dirs.length jd] 46)=w4 at J4 M4 Y4 ⊢
       generalize wr.heap.size=gf at Y4 ⊢
       clear bn J3 M3
       obtain ⟨⟨y0,y1,y2,y3,y4,y5⟩,_⟩:=six_cells Y4.out
       obtain ⟨fn,tmps,assign,body,hy,hRd⟩:=HY.out _ [.string f.name,.slice Bp f.params.length jp,.string f.tn,.int .i64 f.tl,.int .i64 f.tm,.slice Bd f.dirs.length jd] w4 HLT.out J4.out ⟨f,HAT.out,M4.out.keep (fun b hb=>⟨Nat.lt_of_lt_of_le hb HB.out,HXB.out b hb⟩) HT.out⟩
       have hy:(Instr.yield l #[.agg #[.string f.name,.slice Bp f.params.length jp,.string f.tn,.int .i64 f.tl,.int .i64 f.tm,.slice Bd f.dirs.length jd]]).run Tryz.prog w4=.ok (.round l fn tmps assign body) w4:=hy
       have HRD:=Hd hRd
       clear hRd
       refine (wpIn_wide (n:=2)).1 ?_
       gi_wp2
       refine HRD.out.mono ?_
       rintro e w5 (⟨rfl,hj,hm⟩|⟨rfl,hj,_⟩)
       · have J5:=Hd hj
         have M5:=Hd (M4.out.trans hm)
         clear hj hm y0 y1 y2 y3 y4 y5 hy
         gi_wp2
         go_wp2_with fail
         go_roundg g2
         case measure=>omega
         case rel=>exact ⟨z+1,by omega,by go_num,Blk.Aside.intro ⟨J5.out,M5.out⟩⟩
       · have J5:=Hd hj
         clear hj y0 y1 y2 y3 y4 y5 hy
         gi_wp2
         go_wp2_with fail
         refine bodyPost_ret (results_none rfl _ _ _) rfl ?_
         exact ⟨⟨_,rfl⟩,.inr ⟨_,HLT.out,J5.out⟩⟩
end Go.Proofs.YtaekdfcpbepepaaGreatDoor
