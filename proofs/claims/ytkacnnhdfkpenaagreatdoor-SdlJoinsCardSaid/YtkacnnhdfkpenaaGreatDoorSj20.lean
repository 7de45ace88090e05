/- The walk of the library's own reading of four digits to the base 16. -/
import Derived.Lib.ConvBytes
import Derived.Laws.Strings3
import Derived.Laws.Closers25
import Derived.Laws.Closers25b
import Derived.BigCall
import Derived.BigGuard
import Derived.Lib.Walk
import Derived.Test.YtkacnnhdfkpenaaGreatDoorSj8
set_option maxRecDepth 100000
set_option maxHeartbeats 4000000
namespace Go.Proofs.YtkacnnhdfkpenaaGreatDoor
open Go.RowKit
def pu:Int→List UInt8→Option Int
 | acc,[]=>some acc
 | acc,b :: t=>if hexB b then pu (acc*16+hexI b) t else none
def puS (l:List UInt8):Value:=match pu 0 l with|some v=>.tuple #[.int .u64 v,.nilIface]|none=>.tuple #[.int .u64 0,.iface 322 (.int .i64 2)]
def lowI (b:UInt8):Int:=bits .or .u8 (b.toNat:Int) 32
theorem hex_dig:∀ b:UInt8,((48:Int)≤(b.toNat:Int)∧(b.toNat:Int)≤57)→hexB b=true∧hexI b=(b.toNat:Int) - 48:=byte_all (by decide +kernel)
theorem hex_low:∀ b:UInt8,¬ ((48:Int)≤(b.toNat:Int)∧(b.toNat:Int)≤57)→(97:Int)≤lowI b→lowI b≤102→hexB b=true∧hexI b=lowI b - 87:=byte_all (by decide +kernel)
theorem hex_not:∀ b:UInt8,¬ ((48:Int)≤(b.toNat:Int)∧(b.toNat:Int)≤57)→¬ ((97:Int)≤lowI b∧lowI b≤102)→hexB b=false:=byte_all (by decide +kernel)
theorem lower_any (b:UInt8) (w:World):Calls Tryz.prog 349 #[.int .u8 (b.toNat:Int)] w fun e w'=>e=.returned (.int .u8 (lowI b))∧w=w':=by
 go_enter Tryz.func349,Tryz.ntmps349
 go_wp2
 go_ret
 exact ⟨rfl,rfl⟩
def lim:Nat→Int|0=>1|1=>16|2=>256|3=>4096|_=>65536
theorem lim_le {k:Nat} {a:Int} (hk:k < 4) (h:a < lim k):a≤4095:=by
 rcases (by omega:k=0∨k=1∨k=2∨k=3) with rfl|rfl|rfl|rfl<;>simp only [lim] at h<;>omega
theorem lim_next {k:Nat} {a d:Int} (hk:k < 4) (h:a < lim k) (hd:d≤15):a*16+d < lim (k+1):=by
 rcases (by omega:k=0∨k=1∨k=2∨k=3) with rfl|rfl|rfl|rfl<;>simp only [lim] at h ⊢<;>omega
theorem below_bytes (w:World) (e:TypeId) (s:ByteArray):Below w.heap.size w (Lib.bytesWorld w e s):=by
 unfold Lib.bytesWorld
 exact Lib.below_freeze ((Below.drew (Below.refl _ w)).alloc (Nat.le_refl _) _) (p:=⟨w.heap.size,_,none⟩) (Nat.le_refl _) 1
theorem parse_in (t:ByteArray) (h4:t.size=4) (w:World):Calls Tryz.prog 338 #[.string t,.int .i64 16,.int .i64 16] w fun e w'=>e=.returned (puS t.data.toList)∧Below w.heap.size w w':=by
 have hemp:=empty_no (s:=t) (by omega)
 have hcv:=Lib.run_convert_string_bytes (P:=Tryz.prog) w 9 116 5 t (u:=.string) Tryz.underlying9 Tryz.underlying116 Tryz.underlying5
 have hB:∀ j,j < t.size→(Lib.bytesWorld w 5 t).cell? ⟨w.heap.size,j,none⟩=some (.int .u8 (t.data.toList.getD j 0).toNat):=fun j hj=>Lib.bytesWorld_cell w 5 t j hj
 have hbl:=below_bytes w 5 t
 obtain ⟨W1,hW1⟩:∃ W1,W1=Lib.bytesWorld w 5 t:=⟨_,rfl⟩
 rw [← hW1] at hcv hB hbl
 have HBL:=Hd hbl
 clear hW1 hbl
 have hLn:=len_data t
 obtain ⟨bs,hL⟩:∃ bs,bs=t.data.toList:=⟨_,rfl⟩
 rw [← hL] at hB hLn ⊢
 clear hL
 obtain ⟨V,hV⟩:∃ V,puS bs=V:=⟨_,rfl⟩
 have HV:=Hd hV
 rw [hV]
 clear hV
 have hmv:IntKind.u64.wrap (IntKind.u64.wrap 65536 - 1)=65535:=by
  rw [IntKind.wrap_u64,IntKind.wrap_u64]
  decide
 go_enter Tryz.func338,Tryz.ntmps338
 go_wp2
 go_loop [12,13,101] (fun vu vn vi=>∃ (k:Nat) (a:Int),vu=.bool false∧vn=.int .u64 a∧vi=.int .i64 k∧k≤t.size∧Hid (0≤a∧a < lim k∧pu 0 bs=pu a (bs.drop k)))
  (fun _ _ vi=>t.size - (intOf vi).toNat)
 case atStart=>exact ⟨0,0,rfl,rfl,rfl,by omega,Hd ⟨by omega,by simp [lim],rfl⟩⟩
 case round =>
  obtain ⟨k,a,rfl,rfl,rfl,hk,hh⟩:=hrel
  obtain ⟨a0,hal,hdec⟩:=hh.out
  clear hh
  by_cases hkn:k < t.size
  · have hk4:k < 4:=by omega
    have a1:=lim_le hk4 hal
    have hc:=hB k hkn
    have hdrop:bs.drop k=bs[k]'(by omega) :: bs.drop (k+1):=List.drop_eq_getElem_cons (by omega)
    have hget:bs.getD k 0=bs[k]'(by omega):=by simp [List.getD,List.getElem?_eq_getElem (show k < bs.length by omega)]
    rw [hdrop] at hdec
    rw [hget] at hc
    generalize bs[k]'(by omega)=c at hc hdec
    have hc256:c.toNat < 256:=c.toNat_lt
    have HLO:=Hd (lower_any c W1)
    clear hB hdrop hget
    have h95:((c.toNat:Int) == 95)=true∨((c.toNat:Int) == 95)=false:=by cases ((c.toNat:Int) == 95)<;>simp
    by_cases hd0:(48:Int)≤(c.toNat:Int)∧(c.toNat:Int)≤57
    · obtain ⟨hx,hv⟩:=hex_dig c hd0
      obtain ⟨d0,d1⟩:=hd0
      have HN:Hid (0≤a*16+((c.toNat:Int) - 48)∧a*16+((c.toNat:Int) - 48) < lim (k+1)∧pu 0 bs=pu (a*16+((c.toNat:Int) - 48)) (bs.drop (k+1))):=Hd ⟨by omega,lim_next hk4 hal (by omega),hdec.trans (by rw [pu,hx,hv];rfl)⟩
      clear hdec hx hv hal h95
      go_wp2
      refine ⟨⟨k+1,a*16+((c.toNat:Int) - 48),rfl,(by first|rfl|(congr 1;omega)),(by first|rfl|(congr 1;omega)),by omega,HN⟩,by simp [intOf];omega⟩
    · have hdd:(c.toNat:Int) < 48∨(57 < (c.toNat:Int)):=by omega
      by_cases hl:(97:Int)≤lowI c∧lowI c≤102
      · obtain ⟨hx,hv⟩:=hex_low c hd0 hl.1 hl.2
        obtain ⟨l0,l1⟩:=hl
        have l2:lowI c≤122:=by omega
        have l3:lowI c - 87 < 16:=by omega
        have HN:Hid (0≤a*16+(lowI c - 87)∧a*16+(lowI c - 87) < lim (k+1)∧pu 0 bs=pu (a*16+(lowI c - 87)) (bs.drop (k+1))):=Hd ⟨by omega,lim_next hk4 hal (by omega),hdec.trans (by rw [pu,hx,hv];rfl)⟩
        generalize lowI c=v at *
        clear hdec hx hv hal hd0
        rcases h95 with h95|h95
        focus
          skip
        rotate_left
        focus
          skip
        all_goals
          rcases hdd with hdd|hdd
          · have hdd3 : ¬ (48:Int)≤(c.toNat:Int):=by omega
            go_wp2_with fail
            refine HLO.out.mono ?_
            rintro e w1 ⟨rfl,rfl⟩
            go_wp2_with fail
            refine HLO.out.mono ?_
            rintro e w1 ⟨rfl,rfl⟩
            go_wp2_with fail
            refine HLO.out.mono ?_
            rintro e w1 ⟨rfl,rfl⟩
            go_wp2_with fail
            refine ⟨⟨k+1,a*16+(v - 87),rfl,(by first|rfl|(congr 1;omega)),(by first|rfl|(congr 1;omega)),by omega,HN⟩,by simp [intOf];omega⟩
          · have hdd1:(48:Int)≤(c.toNat:Int):=by omega
            have hdd2 : ¬ (c.toNat:Int)≤57:=by omega
            go_wp2_with fail
            refine HLO.out.mono ?_
            rintro e w1 ⟨rfl,rfl⟩
            go_wp2_with fail
            refine HLO.out.mono ?_
            rintro e w1 ⟨rfl,rfl⟩
            go_wp2_with fail
            refine HLO.out.mono ?_
            rintro e w1 ⟨rfl,rfl⟩
            go_wp2_with fail
            refine ⟨⟨k+1,a*16+(v - 87),rfl,(by first|rfl|(congr 1;omega)),(by first|rfl|(congr 1;omega)),by omega,HN⟩,by simp [intOf];omega⟩
      · have hx:=hex_not c hd0 hl
        have hF:Hid (V=.tuple #[.int .u64 0,.iface 322 (.int .i64 2)]):=Hd (by rw [← HV.out,puS,show pu 0 bs=none from hdec.trans (by simp [pu,hx])])
        have hlow:=bits_lo_u8 .or (c.toNat:Int) 32
        have hhi:=bits_hi_u8 .or (c.toNat:Int) 32
        change 0≤lowI c at hlow
        change lowI c≤255 at hhi
        generalize lowI c=v at *
        clear hdec hx hal hd0 HV
        rcases (by omega:v < 97∨(97≤v∧122 < v)∨(97≤v∧v≤122∧103≤v)) with l0|⟨l0,l1⟩|⟨l0,l1,l2⟩
        · clear hl
          have l9 : ¬ 97≤v:=by omega
          rcases h95 with h95|h95
          focus
            skip
          rotate_left
          focus
            skip
          all_goals
            rcases hdd with hdd|hdd
            · have hdd3 : ¬ (48:Int)≤(c.toNat:Int):=by omega
              go_wp2_with fail
              refine HLO.out.mono ?_
              rintro e w1 ⟨rfl,rfl⟩
              go_wp2_with fail
              go_ret2
              exact ⟨by rw [hF.out];rfl,HBL.out⟩
            · have hdd1:(48:Int)≤(c.toNat:Int):=by omega
              have hdd2 : ¬ (c.toNat:Int)≤57:=by omega
              go_wp2_with fail
              refine HLO.out.mono ?_
              rintro e w1 ⟨rfl,rfl⟩
              go_wp2_with fail
              go_ret2
              exact ⟨by rw [hF.out];rfl,HBL.out⟩
        · clear hl
          have l9 : ¬ v≤122:=by omega
          rcases h95 with h95|h95
          focus
            skip
          rotate_left
          focus
            skip
          all_goals
            rcases hdd with hdd|hdd
            · have hdd3 : ¬ (48:Int)≤(c.toNat:Int):=by omega
              go_wp2_with fail
              refine HLO.out.mono ?_
              rintro e w1 ⟨rfl,rfl⟩
              go_wp2_with fail
              refine HLO.out.mono ?_
              rintro e w1 ⟨rfl,rfl⟩
              go_wp2_with fail
              go_ret2
              exact ⟨by rw [hF.out];rfl,HBL.out⟩
            · have hdd1:(48:Int)≤(c.toNat:Int):=by omega
              have hdd2 : ¬ (c.toNat:Int)≤57:=by omega
              go_wp2_with fail
              refine HLO.out.mono ?_
              rintro e w1 ⟨rfl,rfl⟩
              go_wp2_with fail
              refine HLO.out.mono ?_
              rintro e w1 ⟨rfl,rfl⟩
              go_wp2_with fail
              go_ret2
              exact ⟨by rw [hF.out];rfl,HBL.out⟩
        · clear hl
          have l9 : ¬ v - 87 < 16:=by omega
          have l8:16≤v - 87:=by omega
          rcases h95 with h95|h95
          focus
            skip
          rotate_left
          focus
            skip
          all_goals
            rcases hdd with hdd|hdd
            · have hdd3 : ¬ (48:Int)≤(c.toNat:Int):=by omega
              go_wp2_with fail
              refine HLO.out.mono ?_
              rintro e w1 ⟨rfl,rfl⟩
              go_wp2_with fail
              refine HLO.out.mono ?_
              rintro e w1 ⟨rfl,rfl⟩
              go_wp2_with fail
              refine HLO.out.mono ?_
              rintro e w1 ⟨rfl,rfl⟩
              go_wp2_with fail
              go_ret2
              exact ⟨by rw [hF.out];rfl,HBL.out⟩
            · have hdd1:(48:Int)≤(c.toNat:Int):=by omega
              have hdd2 : ¬ (c.toNat:Int)≤57:=by omega
              go_wp2_with fail
              refine HLO.out.mono ?_
              rintro e w1 ⟨rfl,rfl⟩
              go_wp2_with fail
              refine HLO.out.mono ?_
              rintro e w1 ⟨rfl,rfl⟩
              go_wp2_with fail
              refine HLO.out.mono ?_
              rintro e w1 ⟨rfl,rfl⟩
              go_wp2_with fail
              go_ret2
              exact ⟨by rw [hF.out];rfl,HBL.out⟩
  · have hkk:k=t.size:=by omega
    have hF:Hid (pu 0 bs=some a):=Hd (hdec.trans (by rw [List.drop_eq_nil_of_le (by omega)];rfl))
    subst hkk
    clear hdec hal
    go_wp2
    go_ret2
    exact ⟨by rw [← HV.out,puS,hF.out];rfl,HBL.out⟩
def Laid3 (w:World):Prop:=TabAt w∧∃ te pe,w.cell? ⟨2,0,none⟩=some (.iface te pe)
theorem bdraw {B:Nat} {a w:World} (h:Below B a w) (n:Nat):Below B a (w.drewN n):=⟨h.os,h.tape,h.output,h.size,h.block⟩
theorem lt_of_cell {w:World} {b o:Nat} {v:Value} (h:w.cell? ⟨b,o,none⟩=some v):b < w.heap.size:=by
 rcases Nat.lt_or_ge b w.heap.size with h'|h'
 · exact h'
 · simp [World.cell?,Array.getElem?_eq_none h'] at h
theorem Laid3.below {w w':World} (h:Laid3 w) (hb:Below w.heap.size w w'):Laid3 w':=by
 obtain ⟨ht,te,pe,hc⟩:=h
 exact ⟨ht.below hb ht.lt,te,pe,(hb.cell (p:=⟨2,0,none⟩) (lt_of_cell hc)).trans hc⟩
theorem Laid3.alloc {w:World} (h:Laid3 w) (o:Obj):Laid3 (w.alloc o):=h.below ((Below.refl _ _).alloc (Nat.le_refl _) o)
theorem parse_yes (t:ByteArray) (h4:t.size=4) (v:Int) (hv:pu 0 t.data.toList=some v) (w:World):Calls Tryz.prog 325 #[.string t,.int .i64 16,.int .i64 16] w fun e w'=>e=.returned (.tuple #[.int .u64 v,.nilIface])∧Below w.heap.size w w':=by
 have hP:=parse_in t h4 w
 rw [puS,hv] at hP
 have HP:=Hd hP
 clear hP
 go_enter Tryz.func325,Tryz.ntmps325
 go_wp2_with fail
 refine HP.out.mono ?_
 rintro e w1 ⟨rfl,hb⟩
 have HB:=Hd hb
 clear hb
 go_wp2_with fail
 go_ret2
 exact ⟨rfl,HB.out⟩
theorem parse_no (t:ByteArray) (h4:t.size=4) (hv:pu 0 t.data.toList=none) (w:World) (h3:Laid3 w):Calls Tryz.prog 325 #[.string t,.int .i64 16,.int .i64 16] w fun e w'=>∃ N,e=.returned (.tuple #[.int .u64 0,.iface 324 (.pointer (some ⟨N,0,none⟩))])∧Below w.heap.size w w':=by
 have hP:=parse_in t h4 w
 rw [puS,hv] at hP
 have HP:=Hd hP
 have H3:=Hd h3
 clear hP h3
 go_enter Tryz.func325,Tryz.ntmps325
 go_wp2_with fail
 refine HP.out.mono ?_
 rintro e w1 ⟨rfl,hb⟩
 obtain ⟨te,pe,hc⟩:=(H3.out.below hb).2
 have HE:=Hd (toError_syntax ⟨#[80,97,114,115,101,85,105,110,116]⟩ t 16 16 (.iface te pe) w1 (by omega) hc (.inr ⟨te,pe,rfl⟩))
 have HB:=Hd hb
 clear hb hc
 go_wp2_with fail
 refine HE.out.mono ?_
 rintro e w2 ⟨N,rfl,hb2⟩
 have HB2:=Hd hb2
 clear hb2
 go_wp2_with fail
 go_ret2
 exact ⟨N,rfl,HB.out.trans (HB2.out.mono HB.out.size)⟩
def unitS (l:List UInt8):Value:=match unitAt l with|some u=>.tuple #[.int .i64 u,.bool true]|none=>.tuple #[.int .i64 0,.bool false]
theorem unit_pu (a b c d:UInt8) (r:List UInt8):unitAt (92 :: 117 :: a :: b :: c :: d :: r)=pu 0 [a,b,c,d]:=by
 simp only [unitAt,pu]
 cases hexB a<;>cases hexB b<;>cases hexB c<;>cases hexB d<;>simp [hexV]
theorem unit_pre {l:List UInt8} (h:pre [92,117] l=false):unitAt l=none:=by
 cases hu:unitAt l with
 | none=>rfl
 | some u =>
   obtain ⟨t,rfl⟩:=unitAt_head hu
   cases h
theorem unit_short {l:List UInt8} (h:l.length < 6):unitAt l=none:=by
 cases hu:unitAt l with
 | none=>rfl
 | some u=>have:=unitAt_len hu;omega
theorem unit_long {l:List UInt8} (h:pre [92,117] l=true) (hl:6≤l.length):unitAt l=pu 0 ((l.drop 2).take 4):=by
 match l,hl with
 | x :: y :: a :: b :: c :: d :: r,_ =>
   unfold pre at h
   simp only [List.isPrefixOf_cons_cons,Bool.and_eq_true,beq_iff_eq] at h
   obtain ⟨rfl,rfl,_⟩:=h
   rw [unit_pu]
   rfl
theorem cut_no (s q:ByteArray) (w:World) (h:pre q.data.toList s.data.toList=false):Calls Tryz.prog 324 #[.string s,.string q] w fun e w'=>e=.returned (.tuple #[.string s,.bool false])∧w=w':=
 (cutPrefix_any s q w).mono fun _ _ ⟨he,hw⟩=>⟨by
  have h':Lib.hasPrefix s.data.toList q.data.toList=false:=h
  rw [he,Lib.trimPrefix,h',if_neg (by simp),mk_of rfl],hw.symm⟩
theorem cut_yes (s q:ByteArray) (w:World) (h:pre q.data.toList s.data.toList=true):Calls Tryz.prog 324 #[.string s,.string q] w fun e w'=>e=.returned (.tuple #[.string (s.extract q.size s.size),.bool true])∧w=w':=
 (cutPrefix_any s q w).mono fun _ _ ⟨he,hw⟩=>⟨by
  have h':Lib.hasPrefix s.data.toList q.data.toList=true:=h
  rw [he,Lib.trimPrefix,h',if_pos rfl,len_data,mk_of (ext_data s q.size)],hw.symm⟩
theorem unit_any (s:ByteArray) (w:World) (hs:s.size≤9000) (h3:Laid3 w):Calls Tryz.prog 296 #[.string s] w fun e w'=>e=.returned (unitS s.data.toList)∧Below w.heap.size w w':=by
 have hl:=len_data s
 cases hp:pre [92,117] s.data.toList
 · have HC:=Hd (cut_no s ⟨#[92,117]⟩ w hp)
   have hr:Hid (unitS s.data.toList=.tuple #[.int .i64 0,.bool false]):=Hd (by rw [unitS,unit_pre hp])
   clear hp hl h3
   go_enter Tryz.func296,Tryz.ntmps296
   go_wp2_with fail
   refine HC.out.mono ?_
   rintro e w1 ⟨rfl,rfl⟩
   go_wp2_with fail
   go_ret2
   exact ⟨by rw [hr.out];rfl,Below.refl _ _⟩
 · have hC:=cut_yes s ⟨#[92,117]⟩ w hp
   rw [show (⟨#[92,117]⟩:ByteArray).size=2 from rfl] at hC
   have h2:2≤s.size:=by have:=pre_len hp;rw [hl] at this;exact this
   obtain ⟨t,ht⟩:∃ t,s.extract 2 s.size=t:=⟨_,rfl⟩
   have htd:t.data.toList=s.data.toList.drop 2:=by rw [← ht,ext_data]
   have hts:t.size=s.size - 2:=by rw [← ht,ext_size]
   rw [ht] at hC
   have HC:=Hd hC
   clear hC ht
   by_cases h6:s.size < 6
   · have hr:Hid (unitS s.data.toList=.tuple #[.int .i64 0,.bool false]):=Hd (by rw [unitS,unit_short (by omega)])
     have e4:(t.size:Int) < 4:=by omega
     clear hp hl h3 htd
     go_enter Tryz.func296,Tryz.ntmps296
     go_wp2_with fail
     refine HC.out.mono ?_
     rintro e w1 ⟨rfl,rfl⟩
     go_wp2_with fail
     go_ret2
     exact ⟨by rw [hr.out];rfl,Below.refl _ _⟩
   · have e4 : ¬ (t.size:Int) < 4:=by omega
     have e5:4≤t.size:=by omega
     have hu:=unit_long hp (by omega)
     rw [← htd,← ext_take t 4] at hu
     have h4s:(t.extract 0 4).size=4:=by simp;omega
     cases hv:pu 0 (t.extract 0 4).data.toList with
     | none =>
       have hr:Hid (unitS s.data.toList=.tuple #[.int .i64 0,.bool false]):=Hd (by rw [unitS,hu,hv])
       have HP:=Hd (parse_no (t.extract 0 4) h4s hv w h3)
       clear hp hl h3 htd hu hv h4s
       go_enter Tryz.func296,Tryz.ntmps296
       go_wp2_with fail
       refine HC.out.mono ?_
       rintro e w1 ⟨rfl,rfl⟩
       go_wp2_with fail
       refine HP.out.mono ?_
       rintro e w1 ⟨N,rfl,hb⟩
       have HB:=Hd hb
       clear hb
       go_wp2_with fail
       go_quiet (fail)
       go_wp2_with fail
       go_ret2
       exact ⟨by rw [hr.out];rfl,bdraw HB.out _⟩
     | some v =>
       have hr:Hid (unitS s.data.toList=.tuple #[.int .i64 v,.bool true]):=Hd (by rw [unitS,hu,hv])
       have HP:=Hd (parse_yes (t.extract 0 4) h4s v hv w)
       have hvb:=unitAt_bd (hu.trans hv)
       obtain ⟨v0,v1⟩:=hvb
       clear hp hl h3 htd hu hv h4s
       go_enter Tryz.func296,Tryz.ntmps296
       go_wp2_with fail
       refine HC.out.mono ?_
       rintro e w1 ⟨rfl,rfl⟩
       go_wp2_with fail
       refine HP.out.mono ?_
       rintro e w1 ⟨rfl,hb⟩
       have HB:=Hd hb
       clear hb
       go_wp2_with fail
       go_quiet (fail)
       go_wp2_with fail
       go_ret2
       exact ⟨by rw [hr.out];rfl,bdraw HB.out _⟩
theorem unit_at (s:ByteArray) (k:Nat) (w:World) (hs:s.size≤9000) (h3:Laid3 w):Calls Tryz.prog 296 #[.string (s.extract k s.size)] w fun e w'=>e=.returned (unitS (s.data.toList.drop k))∧Below w.heap.size w w':=by
 have h:=unit_any (s.extract k s.size) w (by rw [ext_size];omega) h3
 rwa [ext_data] at h
end Go.Proofs.YtkacnnhdfkpenaaGreatDoor
