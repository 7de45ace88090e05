/- The landed reader of types: lists, and all. (gen_type.py wrote it.) -/
import Derived.Test.YtpkmbhnikilihaaGreatDoorQv10
import Derived.Defers
import Derived.Recover
import Derived.Laws.EntriesVeiled
import Derived.Lib.ConvBytes
import Derived.Laws.Strings3
import Derived.Laws.Closers25
import Derived.Laws.Closers25b
import Derived.BigCall
import Derived.BigGuard
import Derived.Lib.Walk
import Derived.Test.YtpkmbhnikilihaaGreatDoorQv8
import Derived.Laws.RangeString
import Derived.Laws.RangeAny
import Derived.Laws.Cover4
import Derived.Lib.OthersKept
set_option maxRecDepth 100000
set_option maxHeartbeats 4000000
namespace Go.Proofs.YtpkmbhnikilihaaGreatDoor
open Go.RowKit
theorem typ_deep (ts:List Tok) (hb:atB 1 oB ts=true):TypC 0 ts:=by
 intro r d w h
 have R0:=Hd ((h.below (blw w (.cells #[.string ⟨#[]⟩,.int .i64 0,.int .i64 0] 39))).below (blw _ (.cells #[.string ⟨#[]⟩,.int .i64 0,.int .i64 0] 39)))
 have K0:=Hd (TwoT.start w r (.string ⟨#[]⟩) (.int .i64 0) (.int .i64 0) (.string ⟨#[]⟩) (.int .i64 0) (.int .i64 0) h.lt)
 have HA:=Hd (at_any r ts d 1 oB _ R0.out)
 rw [hb] at HA
 rw [typeR_deep hb]
 clear h hb
 show Calls _ _ #[_,.int .i64 4] _ fun e w'=>e=PanicE 4∧Moved r w w'
 go_enter Tryz.func128,Tryz.ntmps128
 go_wp2_with fail
 refine HA.out.mono ?_
 rintro e w1 ⟨rfl,rfl⟩
 go_wp2_with fail
 exact ⟨rfl,rfl,K0.out.2.2.1⟩
theorem typ_list (left:Nat) (hleft:left+1≤4) (ih:∀ ts,NamesT ts→TypC left ts) (ts:List Tok) (hN:NamesT ts) (hb:atB 1 oB ts=true):TypC (left+1) ts:=by
 intro r d w h
 have K0:=Hd (TwoT.start w r (.string ⟨#[]⟩) (.int .i64 0) (.int .i64 0) (.string ⟨#[]⟩) (.int .i64 0) (.int .i64 0) h.lt)
 have R0:=Hd ((h.below (blw w (.cells #[.string ⟨#[]⟩,.int .i64 0,.int .i64 0] 39))).below (blw _ (.cells #[.string ⟨#[]⟩,.int .i64 0,.int .i64 0] 39)))
 have HA:=Hd (at_any r ts d 1 oB _ R0.out)
 have HK:=Hd (skip_any r ts d 1 oB _ R0.out)
 have hst:skipT 1 oB ts=ts.tail:=by unfold skipT;rw [hb];rfl
 rw [hb] at HA HK
 rw [hst] at HK
 obtain ⟨L,hL⟩:∃ L:Int,((4 - (left+1):Nat):Int)=L:=⟨_,rfl⟩
 have hL4:(L == 4)=false:=by simp;omega
 have hL1:L+1=((4 - left:Nat):Int):=by omega
 have hLb:0≤L∧L≤4:=by omega
 rw [hL]
 have HI:=fun wx (hx:Rd wx r ts.tail d)=>Hd (ih ts.tail hN.tail r d wx hx)
 rw [← hL1] at HI
 have hright:=type_right left ts.tail hN.tail
 clear hst h hN hL hL1 ih
 cases hi:typeR left ts.tail with
 | error x =>
   rw [hi] at HI
   have hg:typeR (left+1) ts=.error x:=by rw [typeR_list hb,hi]
   rw [hg]
   clear hg hb
   show Calls _ _ _ _ fun e w'=>e=PanicE x∧Moved r w w'
   clear hi hright
   go_enter Tryz.func128,Tryz.ntmps128
   go_wp2_with fail
   refine HA.out.mono ?_
   rintro e w1 ⟨rfl,rfl⟩
   go_wp2_with fail
   refine HK.out.mono ?_
   rintro e w2 ⟨rfl,r2,m2⟩
   have K2:=Hd (K0.out.next m2)
   have R2:=Hd r2
   clear r2 m2
   go_wp2_with fail
   refine (HI _ R2.out).out.mono ?_
   rintro e w3 ⟨rfl,m3⟩
   exact ⟨rfl,rfl,K2.out.2.2.1.trans m3⟩
 | ok p =>
   obtain ⟨⟨n,l,m⟩,ts1⟩:=p
   rw [hi] at HI
   have RNi:=hright n l m ts1 hi
   have HLI:=fun wx=>Hd (by have h:=list_any n (l:Int) (m:Int) wx RNi.2.1;rw [list_of RNi (by omega),yesT] at h;exact h)
   have RN:=Hd (show RightN n (l+1) (2*m) (left+1) ts1.tail from ⟨RNi.1,RNi.2.1,by have:=RNi.2.2.1;omega,by have:=RNi.2.2.2.1;rw [Nat.pow_succ];omega,RNi.2.2.2.2.tail⟩)
   clear hright RNi
   cases hc:atB 1 cB ts1 with
   | false =>
     have HN:=fun wx (hx:Rd wx r ts1 d)=>Hd (by have:=need_any r ts1 d 1 cB wx hx;rw [hc] at this;simp only [Bool.false_eq_true,if_false] at this;exact this)
     have hg:typeR (left+1) ts=.error 2:=by rw [typeR_list hb,hi];show (if atB 1 cB ts1=true then _ else _)=_;rw [hc];rfl
     rw [hg]
     clear hc hg hb hi
     show Calls _ _ _ _ fun e w'=>e=PanicE 2∧Moved r w w'
     go_enter Tryz.func128,Tryz.ntmps128
     go_wp2_with fail
     refine HA.out.mono ?_
     rintro e w1 ⟨rfl,rfl⟩
     go_wp2_with fail
     refine HK.out.mono ?_
     rintro e w2 ⟨rfl,r2,m2⟩
     have K2:=Hd (K0.out.next m2)
     have R2:=Hd r2
     clear r2 m2
     go_wp2_with fail
     refine (HI _ R2.out).out.mono ?_
     rintro e w3 ⟨rfl,r3,m3⟩
     have K3:=Hd (K2.out.next m3)
     have R3:=Hd r3
     clear r3 m3 HI
     go_wp2_with fail
     refine (HLI _).out.mono ?_
     rintro e w4 ⟨rfl,hb4⟩
     have K4:=Hd (K3.out.next (Moved.of_below hb4))
     have R4:=Hd (R3.out.below hb4)
     clear hb4 HLI K0 K2 K3 R0 R2 R3
     obtain ⟨k0,k1,k2,z0,z1,z2⟩:=ty_cells K4.out.2.1
     go_wp2_with fail
     clear k0 k1 k2 z0 z1 z2
     have K5:=Hd (K4.out.set2 (.string n) (.int .i64 ((l+1:Nat):Int)) (.int .i64 ((2*m:Nat):Int)))
     have R5:=Hd (((R4.out.set (b:=w.heap.size+1) (i:=0) (v:=.string n) (Nat.lt_succ_of_lt K4.out.2.2.2)).set (b:=w.heap.size+1) (i:=1) (v:=.int .i64 ((l+1:Nat):Int)) (Nat.lt_succ_of_lt K4.out.2.2.2)).set (b:=w.heap.size+1) (i:=2) (v:=.int .i64 ((2*m:Nat):Int)) (Nat.lt_succ_of_lt K4.out.2.2.2))
     refine (HN _ R5.out).out.mono ?_
     rintro e w6 ⟨rfl,m6⟩
     exact ⟨rfl,rfl,K5.out.2.2.1.trans m6⟩
   | true =>
     have HN:=fun wx (hx:Rd wx r ts1 d)=>Hd (by have:=need_any r ts1 d 1 cB wx hx;rw [hc] at this;simp only [if_true] at this;exact this)
     have hg:typeR (left+1) ts=.ok (bangR n (l+1) (2*m) ts1.tail):=by rw [typeR_list hb,hi];show (if atB 1 cB ts1=true then _ else _)=_;rw [hc];rfl
     rw [hg]
     clear hc hg hb hi
     obtain ⟨RES,hRES⟩:∃ RES,bangR n (l+1) (2*m) ts1.tail=RES:=⟨_,rfl⟩
     rw [hRES]
     have hR:=Hd hRES.symm
     clear hRES
     obtain ⟨l1,hl1⟩:∃ l1,l+1=l1:=⟨_,rfl⟩
     obtain ⟨m1,hm1⟩:∃ m1,2*m=m1:=⟨_,rfl⟩
     rw [hl1,hm1] at RN hR HLI
     clear hl1 hm1
     go_enter Tryz.func128,Tryz.ntmps128
     go_wp2_with fail
     refine HA.out.mono ?_
     rintro e w1 ⟨rfl,rfl⟩
     go_wp2_with fail
     refine HK.out.mono ?_
     rintro e w2 ⟨rfl,r2,m2⟩
     have K2:=Hd (K0.out.next m2)
     have R2:=Hd r2
     clear r2 m2
     go_wp2_with fail
     refine (HI _ R2.out).out.mono ?_
     rintro e w3 ⟨rfl,r3,m3⟩
     have K3:=Hd (K2.out.next m3)
     have R3:=Hd r3
     clear r3 m3 HI
     go_wp2_with fail
     refine (HLI _).out.mono ?_
     rintro e w4 ⟨rfl,hb4⟩
     have K4:=Hd (K3.out.next (Moved.of_below hb4))
     have R4:=Hd (R3.out.below hb4)
     clear hb4 HLI K0 K2 K3 R0 R2 R3
     obtain ⟨k0,k1,k2,z0,z1,z2⟩:=ty_cells K4.out.2.1
     go_wp2_with fail
     clear k0 k1 k2 z0 z1 z2
     have K5:=Hd (K4.out.set2 (.string n) (.int .i64 (l1:Int)) (.int .i64 (m1:Int)))
     have R5:=Hd (((R4.out.set (b:=w.heap.size+1) (i:=0) (v:=.string n) (Nat.lt_succ_of_lt K4.out.2.2.2)).set (b:=w.heap.size+1) (i:=1) (v:=.int .i64 (l1:Int)) (Nat.lt_succ_of_lt K4.out.2.2.2)).set (b:=w.heap.size+1) (i:=2) (v:=.int .i64 (m1:Int)) (Nat.lt_succ_of_lt K4.out.2.2.2))
     refine (HN _ R5.out).out.mono ?_
     rintro e w6 ⟨rfl,r6,m6⟩
     have K6:=Hd (K5.out.next m6)
     have R6:=Hd r6
     clear r6 m6 HN K5 R5 K4 R4 HA HK
     go_wp2_with fail
     generalize ts1.tail=ts2 at *
     have HS:=Hd (skip_any r ts2 d 1 bB _ R6.out)
     have hbb:Hid (bangR n l1 m1 ts2=if atB 1 bB ts2=true then ((n,l1,m1 ||| 1),ts2.tail) else ((n,l1,m1),ts2)):=Hd rfl
     have hst:Hid (skipT 1 bB ts2=if atB 1 bB ts2=true then ts2.tail else ts2):=Hd rfl
     generalize atB 1 bB ts2=q at *
     obtain ⟨k0,k1,k2,z0,z1,z2⟩:=ty_cells K6.out.2.1
     obtain ⟨j0,j1,j2,y0,y1,y2⟩:=ty_cells K6.out.1
     clear k0 k1 k2 z0 z1 z2 j0 j1 j2 y0 y1 y2
     go_wp2_with fail
     cases q with
     | false =>
       refine HS.out.mono ?_
       rintro e wa ⟨rfl,ra,ma⟩
       rw [hst.out] at ra
       have KA:=Hd (K6.out.next ma)
       have RA:=Hd ra
       obtain ⟨k0,k1,k2,z0,z1,z2⟩:=ty_cells KA.out.2.1
       obtain ⟨j0,j1,j2,y0,y1,y2⟩:=ty_cells KA.out.1
       clear ra ma HS
       go_wp2_with fail
       have KB:=Hd (KA.out.set1 (.string n) (.int .i64 (l1:Nat)) (.int .i64 (m1:Nat)))
       refine ret_tp rfl rfl rfl KB.out.1 ?_
       rw [hR.out,hbb.out]
       exact ⟨rfl,((RA.out.set (Nat.lt_of_lt_of_le KA.out.2.2.2 (Nat.le_refl _))).set (Nat.lt_of_lt_of_le KA.out.2.2.2 (Nat.le_refl _))).set (Nat.lt_of_lt_of_le KA.out.2.2.2 (Nat.le_refl _)),KB.out.2.2.1⟩
     | true =>
       refine HS.out.mono ?_
       rintro e wa ⟨rfl,ra,ma⟩
       rw [hst.out] at ra
       have KA:=Hd (K6.out.next ma)
       have RA:=Hd ra
       have HM:=fun wx=>Hd (by have h:=must_any n (l1:Nat) (m1:Nat) wx RN.out.2.1;rw [must_of RN.out hleft] at h;exact h)
       obtain ⟨k0,k1,k2,z0,z1,z2⟩:=ty_cells KA.out.2.1
       clear ra ma HS
       go_wp2_with fail
       refine (HM _).out.mono ?_
       rintro e wb ⟨rfl,hb⟩
       have KB:=Hd (KA.out.next (Moved.of_below hb))
       have RB:=Hd (RA.out.below hb)
       clear hb k0 k1 k2 z0 z1 z2 HM
       obtain ⟨k0,k1,k2,z0,z1,z2⟩:=ty_cells KB.out.2.1
       obtain ⟨j0,j1,j2,y0,y1,y2⟩:=ty_cells KB.out.1
       go_wp2_with fail
       have KC:=Hd ((KB.out.set2 (.string n) (.int .i64 (l1:Nat)) (.int .i64 ((m1 ||| 1:Nat):Int))).set1 (.string n) (.int .i64 (l1:Nat)) (.int .i64 ((m1 ||| 1:Nat):Int)))
       refine ret_tp rfl rfl rfl KC.out.1 ?_
       rw [hR.out,hbb.out]
       have hlt:=KB.out.2.2.2
       exact ⟨rfl,(((((RB.out.set (by omega)).set (by omega)).set (by omega)).set (by omega)).set (by omega)).set (by omega),KC.out.2.2.1⟩
theorem typ_any (left:Nat) (hleft:left≤4):∀ ts,NamesT ts→TypC left ts:=by
 induction left with
 | zero =>
   intro ts hN
   cases hb:atB 1 oB ts with
   | true=>exact typ_deep ts hb
   | false=>exact typ_name 0 hleft ts hN hb
 | succ left ih =>
   intro ts hN
   cases hb:atB 1 oB ts with
   | true=>exact typ_list left hleft (ih (by omega)) ts hN hb
   | false=>exact typ_name (left+1) hleft ts hN hb
theorem catchT_idle (p:Addr) (w:World) :
  CallsD Tryz.prog 127 #[.pointer (some p)] .returning w fun e u' w'=>e=.returned (.tuple #[])∧u'=.returning∧w'=w:=by
 refine callsD_of_wpS Tryz.func127 rfl fun c₀ cs hu=>?_
 apply wpS_seq
 apply wpS_region
 simp [wpOpsS,go_sem,recoverD,hu,Tryz.ntmps127,Exit.thenS]
 refine wpS_of_wp ?_
 change Code.wp _ _ _ ⟨#[.pointer (some p),undef,undef,undef,.nilIface,undef,undef,undef,undef,undef,undef,undef],[]⟩ _
 go_wp2_with fail
 cases c₀
 simp_all [bodyPostS,results,Tryz.results127]
theorem assert_refusal (v:Value) (w:World):(Instr.typeAssert (.iface 145 v) 20 145 true).run Tryz.prog w=.ok (.tuple #[v,.bool true]) w:=by kernel_rfl
theorem catchT_panicking (p:Addr) (x y:Int) (older:List PanicEntry) (w:World) (hc:w.cell? p=some (.int .i64 x)) (hz:w.frozen? p=false) (hp:p.block < w.heap.size) :
  CallsD Tryz.prog 127 #[.pointer (some p)] (.panicking ({ v:=.iface 145 (.agg #[.int .i64 y]),recovered:=false } :: older)) w fun e u' w'=>e=.returned (.tuple #[])∧u'=.panicking ({ v:=.iface 145 (.agg #[.int .i64 y]),recovered:=true } :: older)∧w'=(w.alloc (.cells #[.int .i64 y] 145)).setCell p (.int .i64 y):=by
 have hta:=assert_refusal
 have hz2:(w.alloc (.cells #[.int .i64 y] 145)).frozen? p=false:=(World.frozen?_of_block (Below.heap_alloc _ _ _ hp)).trans hz
 have hc2:(w.alloc (.cells #[.int .i64 y] 145)).cell? p=some (.int .i64 x):=(World.cell?_of_block (Below.heap_alloc _ _ _ hp)).trans hc
 refine callsD_of_wpS Tryz.func127 rfl fun c₀ cs hu=>?_
 apply wpS_seq
 apply wpS_region
 simp [wpOpsS,go_sem,recoverD,hu,Tryz.ntmps127,Exit.thenS]
 refine wpS_of_wp ?_
 change Code.wp _ _ _ ⟨#[.pointer (some p),undef,undef,undef,.iface 145 (.agg #[.int .i64 y]),undef,undef,undef,undef,undef,undef,undef],[]⟩ _
 go_wp2_with fail
 cases c₀
 simp_all [bodyPostS,results,Tryz.results127]
def pu:Int→List UInt8→Option Int
 | acc,[]=>some acc
 | acc,b :: t=>if hexB b then pu (acc*16+hexI b) t else none
def puS (l:List UInt8):Value:=match pu 0 l with|some v=>.tuple #[.int .u64 v,.nilIface]|none=>.tuple #[.int .u64 0,.iface 254 (.int .i64 2)]
def lowI (b:UInt8):Int:=bits .or .u8 (b.toNat:Int) 32
theorem hex_dig:∀ b:UInt8,((48:Int)≤(b.toNat:Int)∧(b.toNat:Int)≤57)→hexB b=true∧hexI b=(b.toNat:Int) - 48:=byte_all (by decide +kernel)
theorem hex_low:∀ b:UInt8,¬ ((48:Int)≤(b.toNat:Int)∧(b.toNat:Int)≤57)→(97:Int)≤lowI b→lowI b≤102→hexB b=true∧hexI b=lowI b - 87:=byte_all (by decide +kernel)
theorem hex_not:∀ b:UInt8,¬ ((48:Int)≤(b.toNat:Int)∧(b.toNat:Int)≤57)→¬ ((97:Int)≤lowI b∧lowI b≤102)→hexB b=false:=byte_all (by decide +kernel)
theorem lower_any (b:UInt8) (w:World):Calls Tryz.prog 295 #[.int .u8 (b.toNat:Int)] w fun e w'=>e=.returned (.int .u8 (lowI b))∧w=w':=by
 go_enter Tryz.func295,Tryz.ntmps295
 go_wp2
 go_ret
 exact ⟨rfl,rfl⟩
def lim:Nat→Int|0=>1|1=>16|2=>256|3=>4096|_=>65536
theorem lim_le {k:Nat} {a:Int} (hk:k < 4) (h:a < lim k):a≤4095:=by
 rcases (by omega:k=0∨k=1∨k=2∨k=3) with rfl|rfl|rfl|rfl<;>simp only [lim] at h<;>omega
theorem lim_next {k:Nat} {a d:Int} (hk:k < 4) (h:a < lim k) (hd:d≤15):a*16+d < lim (k+1):=by
 rcases (by omega:k=0∨k=1∨k=2∨k=3) with rfl|rfl|rfl|rfl<;>simp only [lim] at h ⊢<;>omega
theorem below_bytes (w:World) (e:TypeId) (s:ByteArray):Below w.heap.size w (Lib.bytesWorld w e s):=by
 unfold Lib.bytesWorld
 exact Lib.below_freeze ((Below.drew (Below.refl _ w)).alloc (Nat.le_refl _) _) (p:=⟨w.heap.size,_,none⟩) (Nat.le_refl _) 1
theorem parse_in (t:ByteArray) (h4:t.size=4) (w:World):Calls Tryz.prog 272 #[.string t,.int .i64 16,.int .i64 16] w fun e w'=>e=.returned (puS t.data.toList)∧Below w.heap.size w w':=by
 have hemp:=empty_no (s:=t) (by omega)
 have hcv:=Lib.run_convert_string_bytes (P:=Tryz.prog) w 9 100 5 t (u:=.string) Tryz.underlying9 Tryz.underlying100 Tryz.underlying5
 have hB:∀ j,j < t.size→(Lib.bytesWorld w 5 t).cell? ⟨w.heap.size,j,none⟩=some (.int .u8 (t.data.toList.getD j 0).toNat):=fun j hj=>Lib.bytesWorld_cell w 5 t j hj
 have hbl:=below_bytes w 5 t
 obtain ⟨W1,hW1⟩:∃ W1,W1=Lib.bytesWorld w 5 t:=⟨_,rfl⟩
 rw [← hW1] at hcv hB hbl
 have HBL:=Hd hbl
 clear hW1 hbl
 have hLn:=len_data t
 obtain ⟨bs,hL⟩:∃ bs,bs=t.data.toList:=⟨_,rfl⟩
 rw [← hL] at hB hLn ⊢
 clear hL
 obtain ⟨V,hV⟩:∃ V,puS bs=V:=⟨_,rfl⟩
 have HV:=Hd hV
 rw [hV]
 clear hV
 have hmv:IntKind.u64.wrap (IntKind.u64.wrap 65536 - 1)=65535:=by
  rw [IntKind.wrap_u64,IntKind.wrap_u64]
  decide
 go_enter Tryz.func272,Tryz.ntmps272
 go_wp2
 go_loop [12,13,101] (fun vu vn vi=>∃ (k:Nat) (a:Int),vu=.bool false∧vn=.int .u64 a∧vi=.int .i64 k∧k≤t.size∧Hid (0≤a∧a < lim k∧pu 0 bs=pu a (bs.drop k)))
  (fun _ _ vi=>t.size - (intOf vi).toNat)
 case atStart=>exact ⟨0,0,rfl,rfl,rfl,by omega,Hd ⟨by omega,by simp [lim],rfl⟩⟩
 case round =>
  obtain ⟨k,a,rfl,rfl,rfl,hk,hh⟩:=hrel
  obtain ⟨a0,hal,hdec⟩:=hh.out
  clear hh
  by_cases hkn:k < t.size
  · have hk4:k < 4:=by omega
    have a1:=lim_le hk4 hal
    have hc:=hB k hkn
    have hdrop:bs.drop k=bs[k]'(by omega) :: bs.drop (k+1):=List.drop_eq_getElem_cons (by omega)
    have hget:bs.getD k 0=bs[k]'(by omega):=by simp [List.getD,List.getElem?_eq_getElem (show k < bs.length by omega)]
    rw [hdrop] at hdec
    rw [hget] at hc
    generalize bs[k]'(by omega)=c at hc hdec
    have hc256:c.toNat < 256:=c.toNat_lt
    have HLO:=Hd (lower_any c W1)
    clear hB hdrop hget
    have h95:((c.toNat:Int) == 95)=true∨((c.toNat:Int) == 95)=false:=by cases ((c.toNat:Int) == 95)<;>simp
    by_cases hd0:(48:Int)≤(c.toNat:Int)∧(c.toNat:Int)≤57
    · obtain ⟨hx,hv⟩:=hex_dig c hd0
      obtain ⟨d0,d1⟩:=hd0
      have HN:Hid (0≤a*16+((c.toNat:Int) - 48)∧a*16+((c.toNat:Int) - 48) < lim (k+1)∧pu 0 bs=pu (a*16+((c.toNat:Int) - 48)) (bs.drop (k+1))):=Hd ⟨by omega,lim_next hk4 hal (by omega),hdec.trans (by rw [pu,hx,hv];rfl)⟩
      clear hdec hx hv hal h95
      go_wp2
      refine ⟨⟨k+1,a*16+((c.toNat:Int) - 48),rfl,(by first|rfl|(congr 1;omega)),(by first|rfl|(congr 1;omega)),by omega,HN⟩,by simp [intOf];omega⟩
    · have hdd:(c.toNat:Int) < 48∨(57 < (c.toNat:Int)):=by omega
      by_cases hl:(97:Int)≤lowI c∧lowI c≤102
      · obtain ⟨hx,hv⟩:=hex_low c hd0 hl.1 hl.2
        obtain ⟨l0,l1⟩:=hl
        have l2:lowI c≤122:=by omega
        have l3:lowI c - 87 < 16:=by omega
        have HN:Hid (0≤a*16+(lowI c - 87)∧a*16+(lowI c - 87) < lim (k+1)∧pu 0 bs=pu (a*16+(lowI c - 87)) (bs.drop (k+1))):=Hd ⟨by omega,lim_next hk4 hal (by omega),hdec.trans (by rw [pu,hx,hv];rfl)⟩
        generalize lowI c=v at *
        clear hdec hx hv hal hd0
        rcases h95 with h95|h95
        · rcases hdd with hdd|hdd
          · have hdd3 : ¬ (48:Int)≤(c.toNat:Int):=by omega
            go_wp2_with fail
            refine HLO.out.mono ?_
            rintro e w1 ⟨rfl,rfl⟩
            go_wp2_with fail
            refine HLO.out.mono ?_
            rintro e w1 ⟨rfl,rfl⟩
            go_wp2_with fail
            refine HLO.out.mono ?_
            rintro e w1 ⟨rfl,rfl⟩
            go_wp2_with fail
            refine ⟨⟨k+1,a*16+(v - 87),rfl,(by first|rfl|(congr 1;omega)),(by first|rfl|(congr 1;omega)),by omega,HN⟩,by simp [intOf];omega⟩
          · have hdd1:(48:Int)≤(c.toNat:Int):=by omega
            have hdd2 : ¬ (c.toNat:Int)≤57:=by omega
            go_wp2_with fail
            refine HLO.out.mono ?_
            rintro e w1 ⟨rfl,rfl⟩
            go_wp2_with fail
            refine HLO.out.mono ?_
            rintro e w1 ⟨rfl,rfl⟩
            go_wp2_with fail
            refine HLO.out.mono ?_
            rintro e w1 ⟨rfl,rfl⟩
            go_wp2_with fail
            refine ⟨⟨k+1,a*16+(v - 87),rfl,(by first|rfl|(congr 1;omega)),(by first|rfl|(congr 1;omega)),by omega,HN⟩,by simp [intOf];omega⟩
        · rcases hdd with hdd|hdd
          · have hdd3 : ¬ (48:Int)≤(c.toNat:Int):=by omega
            go_wp2_with fail
            refine HLO.out.mono ?_
            rintro e w1 ⟨rfl,rfl⟩
            go_wp2_with fail
            refine HLO.out.mono ?_
            rintro e w1 ⟨rfl,rfl⟩
            go_wp2_with fail
            refine HLO.out.mono ?_
            rintro e w1 ⟨rfl,rfl⟩
            go_wp2_with fail
            refine ⟨⟨k+1,a*16+(v - 87),rfl,(by first|rfl|(congr 1;omega)),(by first|rfl|(congr 1;omega)),by omega,HN⟩,by simp [intOf];omega⟩
          · have hdd1:(48:Int)≤(c.toNat:Int):=by omega
            have hdd2 : ¬ (c.toNat:Int)≤57:=by omega
            go_wp2_with fail
            refine HLO.out.mono ?_
            rintro e w1 ⟨rfl,rfl⟩
            go_wp2_with fail
            refine HLO.out.mono ?_
            rintro e w1 ⟨rfl,rfl⟩
            go_wp2_with fail
            refine HLO.out.mono ?_
            rintro e w1 ⟨rfl,rfl⟩
            go_wp2_with fail
            refine ⟨⟨k+1,a*16+(v - 87),rfl,(by first|rfl|(congr 1;omega)),(by first|rfl|(congr 1;omega)),by omega,HN⟩,by simp [intOf];omega⟩
      · have hx:=hex_not c hd0 hl
        have hF:Hid (V=.tuple #[.int .u64 0,.iface 254 (.int .i64 2)]):=Hd (by rw [← HV.out,puS,show pu 0 bs=none from hdec.trans (by simp [pu,hx])])
        have hlow:=bits_lo_u8 .or (c.toNat:Int) 32
        have hhi:=bits_hi_u8 .or (c.toNat:Int) 32
        change 0≤lowI c at hlow
        change lowI c≤255 at hhi
        generalize lowI c=v at *
        clear hdec hx hal hd0 HV
        rcases (by omega:v < 97∨(97≤v∧122 < v)∨(97≤v∧v≤122∧103≤v)) with l0|⟨l0,l1⟩|⟨l0,l1,l2⟩
        · clear hl
          have l9 : ¬ 97≤v:=by omega
          rcases h95 with h95|h95
          · rcases hdd with hdd|hdd
            · have hdd3 : ¬ (48:Int)≤(c.toNat:Int):=by omega
              go_wp2_with fail
              refine HLO.out.mono ?_
              rintro e w1 ⟨rfl,rfl⟩
              go_wp2_with fail
              go_ret2
              exact ⟨by rw [hF.out];rfl,HBL.out⟩
            · have hdd1:(48:Int)≤(c.toNat:Int):=by omega
              have hdd2 : ¬ (c.toNat:Int)≤57:=by omega
              go_wp2_with fail
              refine HLO.out.mono ?_
              rintro e w1 ⟨rfl,rfl⟩
              go_wp2_with fail
              go_ret2
              exact ⟨by rw [hF.out];rfl,HBL.out⟩
          · rcases hdd with hdd|hdd
            · have hdd3 : ¬ (48:Int)≤(c.toNat:Int):=by omega
              go_wp2_with fail
              refine HLO.out.mono ?_
              rintro e w1 ⟨rfl,rfl⟩
              go_wp2_with fail
              go_ret2
              exact ⟨by rw [hF.out];rfl,HBL.out⟩
            · have hdd1:(48:Int)≤(c.toNat:Int):=by omega
              have hdd2 : ¬ (c.toNat:Int)≤57:=by omega
              go_wp2_with fail
              refine HLO.out.mono ?_
              rintro e w1 ⟨rfl,rfl⟩
              go_wp2_with fail
              go_ret2
              exact ⟨by rw [hF.out];rfl,HBL.out⟩
        · clear hl
          have l9 : ¬ v≤122:=by omega
          rcases h95 with h95|h95
          · rcases hdd with hdd|hdd
            · have hdd3 : ¬ (48:Int)≤(c.toNat:Int):=by omega
              go_wp2_with fail
              refine HLO.out.mono ?_
              rintro e w1 ⟨rfl,rfl⟩
              go_wp2_with fail
              refine HLO.out.mono ?_
              rintro e w1 ⟨rfl,rfl⟩
              go_wp2_with fail
              go_ret2
              exact ⟨by rw [hF.out];rfl,HBL.out⟩
            · have hdd1:(48:Int)≤(c.toNat:Int):=by omega
              have hdd2 : ¬ (c.toNat:Int)≤57:=by omega
              go_wp2_with fail
              refine HLO.out.mono ?_
              rintro e w1 ⟨rfl,rfl⟩
              go_wp2_with fail
              refine HLO.out.mono ?_
              rintro e w1 ⟨rfl,rfl⟩
              go_wp2_with fail
              go_ret2
              exact ⟨by rw [hF.out];rfl,HBL.out⟩
          · rcases hdd with hdd|hdd
            · have hdd3 : ¬ (48:Int)≤(c.toNat:Int):=by omega
              go_wp2_with fail
              refine HLO.out.mono ?_
              rintro e w1 ⟨rfl,rfl⟩
              go_wp2_with fail
              refine HLO.out.mono ?_
              rintro e w1 ⟨rfl,rfl⟩
              go_wp2_with fail
              go_ret2
              exact ⟨by rw [hF.out];rfl,HBL.out⟩
            · have hdd1:(48:Int)≤(c.toNat:Int):=by omega
              have hdd2 : ¬ (c.toNat:Int)≤57:=by omega
              go_wp2_with fail
              refine HLO.out.mono ?_
              rintro e w1 ⟨rfl,rfl⟩
              go_wp2_with fail
              refine HLO.out.mono ?_
              rintro e w1 ⟨rfl,rfl⟩
              go_wp2_with fail
              go_ret2
              exact ⟨by rw [hF.out];rfl,HBL.out⟩
        · clear hl
          have l9 : ¬ v - 87 < 16:=by omega
          have l8:16≤v - 87:=by omega
          rcases h95 with h95|h95
          · rcases hdd with hdd|hdd
            · have hdd3 : ¬ (48:Int)≤(c.toNat:Int):=by omega
              go_wp2_with fail
              refine HLO.out.mono ?_
              rintro e w1 ⟨rfl,rfl⟩
              go_wp2_with fail
              refine HLO.out.mono ?_
              rintro e w1 ⟨rfl,rfl⟩
              go_wp2_with fail
              refine HLO.out.mono ?_
              rintro e w1 ⟨rfl,rfl⟩
              go_wp2_with fail
              go_ret2
              exact ⟨by rw [hF.out];rfl,HBL.out⟩
            · have hdd1:(48:Int)≤(c.toNat:Int):=by omega
              have hdd2 : ¬ (c.toNat:Int)≤57:=by omega
              go_wp2_with fail
              refine HLO.out.mono ?_
              rintro e w1 ⟨rfl,rfl⟩
              go_wp2_with fail
              refine HLO.out.mono ?_
              rintro e w1 ⟨rfl,rfl⟩
              go_wp2_with fail
              refine HLO.out.mono ?_
              rintro e w1 ⟨rfl,rfl⟩
              go_wp2_with fail
              go_ret2
              exact ⟨by rw [hF.out];rfl,HBL.out⟩
          · rcases hdd with hdd|hdd
            · have hdd3 : ¬ (48:Int)≤(c.toNat:Int):=by omega
              go_wp2_with fail
              refine HLO.out.mono ?_
              rintro e w1 ⟨rfl,rfl⟩
              go_wp2_with fail
              refine HLO.out.mono ?_
              rintro e w1 ⟨rfl,rfl⟩
              go_wp2_with fail
              refine HLO.out.mono ?_
              rintro e w1 ⟨rfl,rfl⟩
              go_wp2_with fail
              go_ret2
              exact ⟨by rw [hF.out];rfl,HBL.out⟩
            · have hdd1:(48:Int)≤(c.toNat:Int):=by omega
              have hdd2 : ¬ (c.toNat:Int)≤57:=by omega
              go_wp2_with fail
              refine HLO.out.mono ?_
              rintro e w1 ⟨rfl,rfl⟩
              go_wp2_with fail
              refine HLO.out.mono ?_
              rintro e w1 ⟨rfl,rfl⟩
              go_wp2_with fail
              refine HLO.out.mono ?_
              rintro e w1 ⟨rfl,rfl⟩
              go_wp2_with fail
              go_ret2
              exact ⟨by rw [hF.out];rfl,HBL.out⟩
  · have hkk:k=t.size:=by omega
    have hF:Hid (pu 0 bs=some a):=Hd (hdec.trans (by rw [List.drop_eq_nil_of_le (by omega)];rfl))
    subst hkk
    clear hdec hal
    go_wp2
    go_ret2
    exact ⟨by rw [← HV.out,puS,hF.out];rfl,HBL.out⟩
def Laid3 (w:World):Prop:=TabAt w∧∃ te pe,w.cell? ⟨2,0,none⟩=some (.iface te pe)
theorem lt_of_cell {w:World} {b o:Nat} {v:Value} (h:w.cell? ⟨b,o,none⟩=some v):b < w.heap.size:=by
 rcases Nat.lt_or_ge b w.heap.size with h'|h'
 · exact h'
 · simp [World.cell?,Array.getElem?_eq_none h'] at h
theorem Laid3.below {w w':World} (h:Laid3 w) (hb:Below w.heap.size w w'):Laid3 w':=by
 obtain ⟨ht,te,pe,hc⟩:=h
 exact ⟨ht.below hb ht.lt,te,pe,(hb.cell (p:=⟨2,0,none⟩) (lt_of_cell hc)).trans hc⟩
theorem Laid3.alloc {w:World} (h:Laid3 w) (o:Obj):Laid3 (w.alloc o):=h.below ((Below.refl _ _).alloc (Nat.le_refl _) o)
theorem parse_yes (t:ByteArray) (h4:t.size=4) (v:Int) (hv:pu 0 t.data.toList=some v) (w:World):Calls Tryz.prog 305 #[.string t,.int .i64 16,.int .i64 16] w fun e w'=>e=.returned (.tuple #[.int .u64 v,.nilIface])∧Below w.heap.size w w':=by
 have hP:=parse_in t h4 w
 rw [puS,hv] at hP
 have HP:=Hd hP
 clear hP
 go_enter Tryz.func305,Tryz.ntmps305
 go_wp2_with fail
 refine HP.out.mono ?_
 rintro e w1 ⟨rfl,hb⟩
 have HB:=Hd hb
 clear hb
 go_wp2_with fail
 go_ret2
 exact ⟨rfl,HB.out⟩
theorem parse_no (t:ByteArray) (h4:t.size=4) (hv:pu 0 t.data.toList=none) (w:World) (h3:Laid3 w):Calls Tryz.prog 305 #[.string t,.int .i64 16,.int .i64 16] w fun e w'=>∃ N,e=.returned (.tuple #[.int .u64 0,.iface 257 (.pointer (some ⟨N,0,none⟩))])∧Below w.heap.size w w':=by
 have hP:=parse_in t h4 w
 rw [puS,hv] at hP
 have HP:=Hd hP
 have H3:=Hd h3
 clear hP h3
 go_enter Tryz.func305,Tryz.ntmps305
 go_wp2_with fail
 refine HP.out.mono ?_
 rintro e w1 ⟨rfl,hb⟩
 obtain ⟨te,pe,hc⟩:=(H3.out.below hb).2
 have HE:=Hd (toError_syntax ⟨#[80,97,114,115,101,85,105,110,116]⟩ t 16 16 (.iface te pe) w1 (by omega) hc (.inr ⟨te,pe,rfl⟩))
 have HB:=Hd hb
 clear hb hc
 go_wp2_with fail
 refine HE.out.mono ?_
 rintro e w2 ⟨N,rfl,hb2⟩
 have HB2:=Hd hb2
 clear hb2
 go_wp2_with fail
 go_ret2
 exact ⟨N,rfl,HB.out.trans (HB2.out.mono HB.out.size)⟩
def unitS (l:List UInt8):Value:=match unitAt l with|some u=>.tuple #[.int .i64 u,.bool true]|none=>.tuple #[.int .i64 0,.bool false]
theorem unit_pu (a b c d:UInt8) (r:List UInt8):unitAt (92 :: 117 :: a :: b :: c :: d :: r)=pu 0 [a,b,c,d]:=by
 simp only [unitAt,pu]
 cases hexB a<;>cases hexB b<;>cases hexB c<;>cases hexB d<;>simp [hexV]
theorem unit_pre {l:List UInt8} (h:pre [92,117] l=false):unitAt l=none:=by
 cases hu:unitAt l with
 | none=>rfl
 | some u =>
   obtain ⟨t,rfl⟩:=unitAt_head hu
   cases h
theorem unit_short {l:List UInt8} (h:l.length < 6):unitAt l=none:=by
 cases hu:unitAt l with
 | none=>rfl
 | some u=>have:=unitAt_len hu;omega
theorem unit_long {l:List UInt8} (h:pre [92,117] l=true) (hl:6≤l.length):unitAt l=pu 0 ((l.drop 2).take 4):=by
 match l,hl with
 | x :: y :: a :: b :: c :: d :: r,_ =>
   unfold pre at h
   simp only [List.isPrefixOf_cons_cons,Bool.and_eq_true,beq_iff_eq] at h
   obtain ⟨rfl,rfl,_⟩:=h
   rw [unit_pu]
   rfl
theorem cut_no (s q:ByteArray) (w:World) (h:pre q.data.toList s.data.toList=false):Calls Tryz.prog 304 #[.string s,.string q] w fun e w'=>e=.returned (.tuple #[.string s,.bool false])∧w=w':=
 (cutPrefix_any s q w).mono fun _ _ ⟨he,hw⟩=>⟨by
  have h':Lib.hasPrefix s.data.toList q.data.toList=false:=h
  rw [he,Lib.trimPrefix,h',if_neg (by simp),mk_of rfl],hw.symm⟩
theorem cut_yes (s q:ByteArray) (w:World) (h:pre q.data.toList s.data.toList=true):Calls Tryz.prog 304 #[.string s,.string q] w fun e w'=>e=.returned (.tuple #[.string (s.extract q.size s.size),.bool true])∧w=w':=
 (cutPrefix_any s q w).mono fun _ _ ⟨he,hw⟩=>⟨by
  have h':Lib.hasPrefix s.data.toList q.data.toList=true:=h
  rw [he,Lib.trimPrefix,h',if_pos rfl,len_data,mk_of (ext_data s q.size)],hw.symm⟩
theorem unit_any (s:ByteArray) (w:World) (hs:s.size≤9000) (h3:Laid3 w):Calls Tryz.prog 289 #[.string s] w fun e w'=>e=.returned (unitS s.data.toList)∧Below w.heap.size w w':=by
 have hl:=len_data s
 cases hp:pre [92,117] s.data.toList
 · have HC:=Hd (cut_no s ⟨#[92,117]⟩ w hp)
   have hr:Hid (unitS s.data.toList=.tuple #[.int .i64 0,.bool false]):=Hd (by rw [unitS,unit_pre hp])
   clear hp hl h3
   go_enter Tryz.func289,Tryz.ntmps289
   go_wp2_with fail
   refine HC.out.mono ?_
   rintro e w1 ⟨rfl,rfl⟩
   go_wp2_with fail
   go_ret2
   exact ⟨by rw [hr.out];rfl,Below.refl _ _⟩
 · have hC:=cut_yes s ⟨#[92,117]⟩ w hp
   rw [show (⟨#[92,117]⟩:ByteArray).size=2 from rfl] at hC
   have h2:2≤s.size:=by have:=pre_len hp;rw [hl] at this;exact this
   obtain ⟨t,ht⟩:∃ t,s.extract 2 s.size=t:=⟨_,rfl⟩
   have htd:t.data.toList=s.data.toList.drop 2:=by rw [← ht,ext_data]
   have hts:t.size=s.size - 2:=by rw [← ht,ext_size]
   rw [ht] at hC
   have HC:=Hd hC
   clear hC ht
   by_cases h6:s.size < 6
   · have hr:Hid (unitS s.data.toList=.tuple #[.int .i64 0,.bool false]):=Hd (by rw [unitS,unit_short (by omega)])
     have e4:(t.size:Int) < 4:=by omega
     clear hp hl h3 htd
     go_enter Tryz.func289,Tryz.ntmps289
     go_wp2_with fail
     refine HC.out.mono ?_
     rintro e w1 ⟨rfl,rfl⟩
     go_wp2_with fail
     go_ret2
     exact ⟨by rw [hr.out];rfl,Below.refl _ _⟩
   · have e4 : ¬ (t.size:Int) < 4:=by omega
     have e5:4≤t.size:=by omega
     have hu:=unit_long hp (by omega)
     rw [← htd,← ext_take t 4] at hu
     have h4s:(t.extract 0 4).size=4:=by simp;omega
     cases hv:pu 0 (t.extract 0 4).data.toList with
     | none =>
       have hr:Hid (unitS s.data.toList=.tuple #[.int .i64 0,.bool false]):=Hd (by rw [unitS,hu,hv])
       have HP:=Hd (parse_no (t.extract 0 4) h4s hv w h3)
       clear hp hl h3 htd hu hv h4s
       go_enter Tryz.func289,Tryz.ntmps289
       go_wp2_with fail
       refine HC.out.mono ?_
       rintro e w1 ⟨rfl,rfl⟩
       go_wp2_with fail
       refine HP.out.mono ?_
       rintro e w1 ⟨N,rfl,hb⟩
       have HB:=Hd hb
       clear hb
       go_wp2_with fail
       go_quiet (fail)
       go_wp2_with fail
       go_ret2
       exact ⟨by rw [hr.out];rfl,bdraw HB.out _⟩
     | some v =>
       have hr:Hid (unitS s.data.toList=.tuple #[.int .i64 v,.bool true]):=Hd (by rw [unitS,hu,hv])
       have HP:=Hd (parse_yes (t.extract 0 4) h4s v hv w)
       have hvb:=unitAt_bd (hu.trans hv)
       obtain ⟨v0,v1⟩:=hvb
       clear hp hl h3 htd hu hv h4s
       go_enter Tryz.func289,Tryz.ntmps289
       go_wp2_with fail
       refine HC.out.mono ?_
       rintro e w1 ⟨rfl,rfl⟩
       go_wp2_with fail
       refine HP.out.mono ?_
       rintro e w1 ⟨rfl,hb⟩
       have HB:=Hd hb
       clear hb
       go_wp2_with fail
       go_quiet (fail)
       go_wp2_with fail
       go_ret2
       exact ⟨by rw [hr.out];rfl,bdraw HB.out _⟩
theorem unit_at (s:ByteArray) (k:Nat) (w:World) (hs:s.size≤9000) (h3:Laid3 w):Calls Tryz.prog 289 #[.string (s.extract k s.size)] w fun e w'=>e=.returned (unitS (s.data.toList.drop k))∧Below w.heap.size w w':=by
 have h:=unit_any (s.extract k s.size) w (by rw [ext_size];omega) h3
 rwa [ext_data] at h
def SomeBool (e:Ending):Prop:=∃ b,e=.returned (.bool b)
theorem valid_some (r:Int) (h0:0≤r) (w:World):Calls Tryz.prog 291 #[.int .i32 r] w fun e w'=>SomeBool e∧w=w':=by
 go_enter Tryz.func291,Tryz.ntmps291
 go_wp2
 all_goals go_ret
 all_goals (refine ⟨?_,rfl⟩;exact ⟨_,rfl⟩)
theorem below_iter (w:World) (s:ByteArray) (i:Nat):Below w.heap.size w (w.iter s i):=(Below.refl _ _).alloc (Nat.le_refl _) _
theorem enc_size {r:Int} (h:128≤r):2≤(Utf8.encode r).size∧(Utf8.encode r).size≤4:=by
 have hc:128≤(if Utf8.valid r then r.toNat else Utf8.runeError):=by
   split
   · omega
   · simp [Utf8.runeError]
 refine ⟨?_,encode_size_le r⟩
 unfold Utf8.encode
 simp only
 generalize (if Utf8.valid r=true then r.toNat else Utf8.runeError)=c at *
 rw [if_neg (by omega)]
 split
 · exact Nat.le_refl 2
 · split
   · exact Nat.le_succ 2
   · exact Nat.le_succ_of_le (Nat.le_succ 2)
theorem enc_one {r:Int} (h:128≤r) (h2:(Utf8.encode r).size=2):128≤((Utf8.encode r)[1]'(by omega)).toNat:=by
 have hc:128≤(if Utf8.valid r then r.toNat else Utf8.runeError):=by
  split
  · omega
  · simp [Utf8.runeError]
 have e:Utf8.encode r=⟨#[UInt8.ofNat (0xC0+(if Utf8.valid r then r.toNat else Utf8.runeError) / 64),UInt8.ofNat (0x80+(if Utf8.valid r then r.toNat else Utf8.runeError) % 64)]⟩:=by
  unfold Utf8.encode at h2 ⊢
  simp only at h2 ⊢
  generalize (if Utf8.valid r=true then r.toNat else Utf8.runeError)=c at *
  rw [if_neg (by omega)] at h2 ⊢
  split at h2
  · rename_i hl;rw [if_pos hl]
  · split at h2
    · exact absurd h2 (by show ¬ (3=2);decide)
    · exact absurd h2 (by show ¬ (4=2);decide)
 generalize (if Utf8.valid r=true then r.toNat else Utf8.runeError)=c at *
 simp only [e]
 show 128≤(UInt8.ofNat (0x80+c % 64)).toNat
 rw [UInt8.toNat_ofNat']
 omega
theorem indexByte_end (c:UInt8) (w:World):Calls Tryz.prog 200 #[.string ByteArray.empty,.int .u8 (c.toNat:Int)] w fun e w'=>e=.returned (.int .i64 (-1))∧w'=w:=
 indexByte_any ByteArray.empty (c.toNat:Int) w
theorem slice_two (w:World):(Instr.slice 9 (.string ⟨#[10,13]⟩) (some (.int .i64 2)) none none).run Tryz.prog w=.ok (.string ((⟨#[10,13]⟩:ByteArray).extract 2 2)) w:=by kernel_rfl
theorem indexRune_high (q:ByteArray) (hq3:q=⟨#[10,13]⟩) (hq2:q.size=2) (hq:∀ i (h:i < q.size),q[i].toNat < 128) (r:Int) (h0:128≤r) (w:World):Calls Tryz.prog 263 #[.string q,.int .i32 r] w fun e w'=>e=.returned (.int .i64 (-1))∧Below w.heap.size w w':=by
 have hsl:∀ w,(Instr.slice 9 (.string q) (some (.int .i64 2)) none none).run Tryz.prog w=.ok (.string (q.extract 2 2)) w:=by subst hq3;exact slice_two
 clear hq3
 have hr0:(0:Int)≤r:=by omega
 have hr1 : ¬ r < 128:=by omega
 cases hE:(r == 65533)
 · have HV:=Hd (valid_some r hr0 w)
   have he:=enc_size h0
   obtain ⟨E,hEE⟩:∃ E,Utf8.encode r=E:=⟨_,rfl⟩
   rw [hEE] at he
   obtain ⟨he0,he1⟩:=he
   go_enter Tryz.func263,Tryz.ntmps263
   go_wp2_with fail
   refine HV.out.mono ?_
   rintro e w1 ⟨⟨b,rfl⟩,rfl⟩
   cases b
   · go_wp2_with fail
     go_ret
     exact ⟨rfl,Below.refl _ _⟩
   · go_wp2_with fail
     go_wp2_with fail
     go_step3
     go_wp2_with fail
     refine wp_loop_once ?_
     by_cases hs2:E.size=2
     · have e1:(E.size:Int) - 1=1:=by omega
       have h1q:1 < q.size:=by omega
       have h1E:1 < E.size:=by omega
       have hqs:(1:Int) < (q.size:Int):=by omega
       have hes:(1:Int) < (E.size:Int):=by omega
       have hne:((q[1].toNat:Int) != (E[1].toNat:Int))=true:=by
        have h1:=hq 1 h1q
        have h2:128≤E[1].toNat:=by
         subst hEE
         exact enc_one h0 hs2
        simp
        omega
       go_wp2_with fail
       go_step3
       go_wp2_with fail
       go_quiet (fail)
       go_wp2_with fail
       have hw2:IntKind.i64.wrap 2=2:=by decide
       go_quiet ((go_at_call 200;exact (indexByte_end E[1] _).mono fun _ _ h=>⟨h.1,_,h.2⟩))
       go_wp2_with fail
       rw [Exit.noGoto_ret]
       simp +zetaDelta only [Exit.inBlock,Exit.then,Exit.noGoto]
       refine bodyPost_ret (results_tmp rfl _ _ _) rfl ?_
       exact ⟨rfl,bdraw (Below.refl _ _) _⟩
     · have e1 : ¬ (E.size:Int) - 1 < (q.size:Int):=by omega
       go_wp2_with fail
       go_ret
       exact ⟨rfl,Below.refl _ _⟩
 · go_enter Tryz.func263,Tryz.ntmps263
   go_wp2_with fail
   go_loopg [5,6] 2 (fun g _ _ wx=>∃ i:Nat,i+g=2∧wx=w.iter q i)
   case atStart=>exact ⟨0,by omega,rfl⟩
   case round =>
     obtain ⟨i,hi,rfl⟩:=hrel
     cases gk with
     | zero =>
       obtain rfl:i=2:=by omega
       have hnx:=fun ty=>run_next_end (P:=Tryz.prog) w q 2 ty (by omega)
       go_wp2
       go_ret
       exact ⟨rfl,below_iter _ _ _⟩
     | succ g =>
       have hi2:i < q.size:=by omega
       have hlt:=hq i hi2
       have hnx:=fun ty=>run_next_ascii (P:=Tryz.prog) w q i ty hi2 hlt
       have hne:((q[i].toNat:Int) == 65533)=false:=by simp;omega
       go_wp2
       go_roundg g
       case measure=>omega
       case rel=>exact ⟨i+1,by omega,rfl⟩
theorem decode_tail (s:ByteArray) (pos:Nat):∀ j,1≤j→j < (Utf8.decode s pos).2→pos+j < s.size∧(s.get! (pos+j)).toNat / 64=2:=by
 intro j h1 h2
 have hj:j=1∨j=2∨j=3∨4≤j:=by omega
 simp only [Utf8.decode] at h2
 rcases hj with rfl|rfl|rfl|hj
 all_goals
  repeat' split at h2
  all_goals simp_all
  all_goals omega
theorem get_at (s:ByteArray) (i:Nat) (h:i < s.size):s.get! i=s[i]:=by
 simp [ByteArray.get!,h]
 rfl
theorem noAny_skip {s:ByteArray} {i K:Nat} (hn:Lib.NoAny s.data.toList [10,13] i) (hi:i < s.size) (h128:128≤(s[i]'hi).toNat) (hK:∀ j,1≤j→j < K→i+j < s.size∧(s.get! (i+j)).toNat / 64=2):Lib.NoAny s.data.toList [10,13] (i+K):=by
 intro j b hj hb
 by_cases h1:j < i
 · exact hn j b h1 hb
 · have hbig:128≤b.toNat:=by
    have hjl:j < s.data.toList.length:=(List.getElem?_eq_some_iff.1 hb).1
    rw [len_data] at hjl
    have hb':s[j]=b:=by
      have:=(List.getElem?_eq_some_iff.1 hb).2
      rw [← this]
      rfl
    by_cases h2:j=i
    · subst h2;rw [← hb'];exact h128
    · have:=(hK (j - i) (by omega) (by omega)).2
      rw [show i+(j - i)=j by omega,get_at s j hjl,hb'] at this
      omega
   have h10:b ≠ 10:=fun e=>by subst e;exact absurd hbig (by decide)
   have h13:b ≠ 13:=fun e=>by subst e;exact absurd hbig (by decide)
   simp [h10,h13]
theorem below_iterAt {B:Nat} {a w:World} (h:Below B a w) {k:Nat} (hk:B≤k) (s:ByteArray) (p:Nat):Below B a (w.iterAt k s p):=by
 refine ⟨h.os,h.tape,h.output,by simpa [World.iterAt] using h.size,fun j hj=>?_⟩
 rw [← h.block j hj]
 show (w.heap.setIfInBounds k (.stringIter s p))[j]? = w.heap[j]?
 rw [Array.getElem?_setIfInBounds_ne (by omega)]
theorem short_set (n:Nat) (h8:(n:Int)≤8) (w:World):Calls Tryz.prog 264 #[.int .i64 (n:Int)] w fun e w'=>e=.returned (.bool false)∧w=w':=by
 go_enter Tryz.func264,Tryz.ntmps264
 go_wp2
 go_ret
 exact ⟨ret_bool (by simp;omega),rfl⟩
theorem indexAny_short (s:ByteArray) (w:World) (h8:s.size≤8):Calls Tryz.prog 231 #[.string s,.string ⟨#[10,13]⟩] w fun e w'=>e=.returned (.int .i64 (Lib.indexAny s.data.toList [10,13]))∧Below w.heap.size w w':=by
 have hl:=len_data s
 have h8z:(s.size:Int)≤8:=by omega
 have HLEN:=Hd hl
 clear hl
 go_enter Tryz.func231,Tryz.ntmps231
 go_wp2_with fail
 refine (short_set s.size h8z _).mono ?_
 rintro e w' ⟨rfl,rfl⟩
 go_wp2_with fail
 go_loopg [9,10] s.size (fun g _ _ wx=>∃ i:Nat,i+g=s.size∧wx.heap[w.heap.size]? = some (.stringIter s i)∧Below w.heap.size w wx∧Aside (Lib.NoAny s.data.toList [10,13] i))
 case atStart=>exact ⟨0,by omega,World.iter_heap _ _ _,below_iter _ _ _,Aside.intro (Lib.NoAny.zero _ _)⟩
 case round =>
  obtain ⟨i,hig,hit,hb,HN⟩:=hrel
  have HB:=Hd hb
  have hbs:=hb.size
  clear hb
  by_cases hi:i < s.size
  · have HIT:=Hd hit
    have hlt:w.heap.size < wr.heap.size:=(Array.getElem?_eq_some_iff.1 hit).1
    by_cases ha:(s[i]'hi).toNat < 128
    · have hnx:=fun ty=>Lib.run_next_ascii_at (P:=Tryz.prog) wr w.heap.size s i ty hit hi ha
      obtain ⟨x,hx⟩:∃ x:UInt8,s[i]'hi=x:=⟨_,rfl⟩
      have hxl:s.data.toList[i]? = some x:=by rw [← hx];exact Lib.data_getElem? s i hi
      rw [hx] at hnx ha
      have hI:=indexRune_ascii ⟨#[10,13]⟩ (x.toNat:Int) (wr.iterAt w.heap.size s (i+1)) (by omega) (by omega)
      rw [show ((x.toNat:Int)).toNat.toUInt8=x by simp] at hI
      have hcon:=Lib.contains_iff_indexByte [10,13] x
      obtain ⟨r,hr⟩:∃ r,Lib.indexByte (⟨#[10,13]⟩:ByteArray).data.toList x=r:=⟨_,rfl⟩
      rw [hr] at hI
      change Lib.indexByte [10,13] x=r at hr
      rw [hr] at hcon
      have HI:=Hd hI
      have Hxl:=Hd hxl
      clear hit hx hxl hI hr
      cases hin:([10,13]:List UInt8).contains x
      · have hneg : ¬ (0:Int)≤r:=by rw [hin] at hcon;exact of_decide_eq_false hcon.symm
        have HN2:=Hd (HN.out.succ Hxl.out hin)
        clear hcon hin HN
        go_wp2_with fail
        refine HI.out.mono ?_
        rintro e w2 ⟨rfl,rfl⟩
        go_wp2_with fail
        go_roundg (gk - 1)
        case measure=>omega
        case rel=>exact ⟨i+1,by omega,Lib.iterAt_heap _ _ _ _ _ HIT.out,below_iterAt HB.out (Nat.le_refl _) _ _,Aside.intro HN2.out⟩
      · have hpos:(0:Int)≤r:=by rw [hin] at hcon;exact of_decide_eq_true hcon.symm
        have hr:Hid (Lib.indexAny s.data.toList [10,13]=i):=Hd (Lib.indexAny_hit HN.out Hxl.out hin)
        clear hcon hin HN
        go_wp2_with fail
        refine HI.out.mono ?_
        rintro e w2 ⟨rfl,rfl⟩
        go_wp2_with fail
        go_ret
        exact ⟨ret_i hr.out.symm,below_iterAt HB.out (Nat.le_refl _) _ _⟩
    · have hd:=decode_high s i hi (by omega)
      have hnx:=fun ty=>Lib.run_next_any_at (P:=Tryz.prog) wr w.heap.size s i ty hit hi
      have HN2:=Hd (noAny_skip HN.out hi (by omega) (decode_tail s i))
      have hw4:i+(Utf8.decode s i).2≤s.size:=by
        by_cases h1:(Utf8.decode s i).2=1
        · omega
        · have:=(decode_tail s i ((Utf8.decode s i).2 - 1) (by omega) (by omega)).1
          omega
      obtain ⟨c,hc⟩:∃ c,(Utf8.decode s i).1=c:=⟨_,rfl⟩
      obtain ⟨K,hK⟩:∃ K,(Utf8.decode s i).2=K:=⟨_,rfl⟩
      rw [hc] at hd hnx
      rw [hK] at hd hnx HN2 hw4
      have HI:=Hd (indexRune_high ⟨#[10,13]⟩ rfl rfl (by decide) (c:Int) (by omega) (wr.iterAt w.heap.size s (i+K)))
      clear hit hc hK HN
      go_wp2_with fail
      refine HI.out.mono ?_
      rintro e w2 ⟨rfl,hb2⟩
      have HBb:=Hd hb2
      clear hb2
      go_wp2_with fail
      go_roundg (gk - K)
      case measure=>omega
      case rel=>exact ⟨i+K,by omega,(HBb.out.block w.heap.size (by simpa [World.iterAt] using hlt)).trans (Lib.iterAt_heap _ _ _ _ _ HIT.out),(below_iterAt HB.out (Nat.le_refl _) s (i+K)).trans (HBb.out.mono (by simpa [World.iterAt] using hbs)),Aside.intro HN2.out⟩
  · obtain rfl:i=s.size:=by omega
    have hnx:=fun ty=>Lib.run_next_end_at (P:=Tryz.prog) wr w.heap.size s s.size ty hit hi
    have hr:Hid (Lib.indexAny s.data.toList [10,13] = -1):=Hd (Lib.indexAny_none (by rw [HLEN.out];exact HN.out))
    clear hit HN
    go_wp2_with fail
    go_ret
    exact ⟨ret_i hr.out.symm,HB.out⟩
end Go.Proofs.YtpkmbhnikilihaaGreatDoor
