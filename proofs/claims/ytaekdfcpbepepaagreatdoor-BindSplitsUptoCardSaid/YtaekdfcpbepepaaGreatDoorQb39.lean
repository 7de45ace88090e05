/- schema.canStandFor. (gen_stand.py wrote it.) -/
import Derived.Test.YtaekdfcpbepepaaGreatDoorQb38
set_option maxRecDepth 100000
set_option maxHeartbeats 8000000
namespace Go.Proofs.YtaekdfcpbepepaaGreatDoor
open Go.RowKit
theorem par_names {w:World} {P:Nat→Prop} {l:List VarT} {A:Option Addr} (h:RowT w P (rowOf encVar l) A):∀ x,x ∈ l→x.name.size≤maxLen:=by
 intro x hx
 obtain ⟨i,hi⟩:=List.getElem?_of_mem hx
 obtain ⟨_,_,_,_,_,_,hT⟩:=rowOf_at 10 len_par h hi
 obtain ⟨_,_,_,_,_,hsz,_⟩:=var_cells hT
 unfold maxLen
 omega
def askAt (own asked:List VarT) (i:Nat):Bool:=match asked[i]? with
 | none=>true
 | some p=>askB own ((asked.take i).map fun x=>x.name) p
theorem askAt_eq {own asked:List VarT} {q:Nat} {p:VarT} (h:asked[q]? = some p):askAt own asked q=askB own ((asked.take q).map fun x=>x.name) p:=by unfold askAt;rw [h]
theorem range_next {f:Nat→Bool} {q:Nat} (h:(List.range q).all f=true) (hq:f q=true):(List.range (q+1)).all f=true:=by rw [List.range_succ,List.all_append,h];simp [hq]
theorem range_no {f:Nat→Bool} {q n:Nat} (hn:q < n) (hq:f q=false):(List.range n).all f=false:=Bool.eq_false_iff.2 (fun h=>by
 have:=List.all_eq_true.1 h q (List.mem_range.2 hn)
 rw [hq] at this
 cases this)
def okN (own:List VarT) (s:ByteArray):Bool:=match lastN (fun y:VarT=>y.name) own s with
 | none=>true
 | some q=>!(isB q.tn.data.toList q.tl q.tm && !q.has)
theorem rest_eq (own asked:List VarT):restB own asked=own.all fun x=>hasN (asked.map fun y=>y.name) x.name || okN own x.name:=rfl
theorem rest_yes {own asked:List VarT} (h:∀ s x,hasN (asked.map fun y=>y.name) s=false→lastN (fun y:VarT=>y.name) own s=some x→okN own s=true):restB own asked=true:=by
 rw [rest_eq]
 refine List.all_eq_true.2 (fun x _=>?_)
 cases e:hasN (asked.map fun y=>y.name) x.name with
 | true=>rfl
 | false =>
   rw [Bool.false_or]
   cases e2:lastN (fun y:VarT=>y.name) own x.name with
   | none=>unfold okN;rw [e2]
   | some y=>exact h _ y e e2
theorem rest_no {own asked:List VarT} {s:ByteArray} {x:VarT} (h1:hasN (asked.map fun y=>y.name) s=false) (h2:lastN (fun y:VarT=>y.name) own s=some x) (h3:okN own s=false):restB own asked=false:=by
 obtain ⟨hm,rfl⟩:=lastN_mem h2
 rw [rest_eq]
 exact Bool.eq_false_iff.2 (fun h=>by
  have:=List.all_eq_true.1 h x hm
  rw [h1,h3] at this
  cases this)
theorem less_some {m:ByteArray→Option Value} {gone:List ByteArray} {s:ByteArray} {u:Value} (h:lessM m gone s=some u):hasN gone s=false∧m s=some u:=by
 unfold lessM at h
 cases e:hasN gone s with
 | true=>rw [e,if_pos rfl] at h;cases h
 | false=>rw [e,if_neg (by decide)] at h;exact ⟨rfl,h⟩
theorem held_of {w:World} {B:Nat} {own:List VarT} {m:ByteArray→Option Value} (h:HeldP w B encVar (fun y=>y.name) own m) {s:ByteArray} {u:Value} (hu:m s=some u):∃ x cs,lastN (fun y:VarT=>y.name) own s=some x∧u=.agg cs.toArray∧TS w (fun b=>b < B) (encVar x) cs:=by
 cases e:lastN (fun y:VarT=>y.name) own s with
 | none=>rw [h.none_at e] at hu;cases hu
 | some x =>
   obtain ⟨cs,h1,h2⟩:=h.some_at e
   rw [hu] at h1
   injection h1 with h1
   exact ⟨x,cs,rfl,h1,h2⟩
theorem ask_none {w:World} {B:Nat} {own:List VarT} {m:ByteArray→Option Value} (h:HeldP w B encVar (fun y=>y.name) own m) {gone:List ByteArray} {p:VarT} (hm:lessM m gone p.name=none):askB own gone p=false:=by
 unfold askB
 unfold lessM at hm
 cases e:hasN gone p.name with
 | true=>rfl
 | false =>
   rw [e,if_neg (by decide)] at hm
   cases e2:lastN (fun x:VarT=>x.name) own p.name with
   | none=>rfl
   | some x =>
     obtain ⟨cs,h1,_⟩:=h.some_at e2
     rw [h1] at hm
     cases hm
theorem ask_some {own:List VarT} {gone:List ByteArray} {p y:VarT} (h1:hasN gone p.name=false) (h2:lastN (fun x:VarT=>x.name) own p.name=some y):askB own gone p=(y.tn.toList == p.tn.toList && (y.tl == p.tl && y.tm == p.tm)):=by
 unfold askB
 rw [h1,h2]
 rfl
theorem ranges_on {H:Type} {P:Program} {k:TypeId} {R:Value→Option (DataW H × List MemPlace)} {w w':World} {b r n:Nat} {D:DataW H} {left:Lit→Bool} {cnt:Nat} (h:w.ranges P k R b r n D left cnt) (hb:Below w.heap.size w w'):w'.ranges P k R b r n D left cnt:=
 h.kept (row:=none) ⟨hb.os,hb.tape,hb.output,hb.size,fun k hk _=>hb.block k hk⟩ (by simp) (by simp)
theorem stand_any (own asked:List VarT) (A1 A2:Option Addr) (c1 c2:Nat) (w:World) (B:Nat) (hB:B≤w.heap.size) (hl1:own.length < maxLen) (hl2:asked.length≤9223372036854775807) (hR1:RowT w (fun b=>b < B) (rowOf encVar own) A1) (hR2:RowT w (fun b=>b < B) (rowOf encVar asked) A2) :
  Calls Tryz.prog 112 #[.slice A1 own.length c1,.slice A2 asked.length c2] w fun e w'=>e=.returned (.bool (standB own asked))∧Below w.heap.size w w':=by
 have BY:=Hd (bynameParV_any 103 (fun x=>x.name) own A1 c1 w B hB hl1 hR1 (Go.Proofs.enters_of Tryz.func103 (by kernel_rfl) rfl) (fun x _ cs W _ hT=>paramName_any x cs W B hT) (par_names hR1))
 have HR:=Hd hR2
 have HB:=Hd hB
 have HN:=Hd (par_names hR2)
 have HE:Hid (standB own asked=((List.range asked.length).all (askAt own asked) && restB own asked)):=Hd rfl
 clear hB hR1 hR2 hl1
 go_enter Tryz.func112,Tryz.ntmps112
 go_wp2_with fail
 refine BY.out.mono ?_
 rintro e w1 ⟨rfl,⟨D0,m,hm,hD,hH⟩,hb⟩
 have B1:=Hd hb
 have M1:=Hd hm
 have D1:=Hd hD
 have HH:=Hd hH
 clear hb hm hD hH BY
 go_wp2_with fail
 go_loopg [16] asked.length (fun g i wx=>∃ q:Nat,q+g=asked.length∧i=.int .i64 q∧Aside ((List.range q).all (askAt own asked)=true∧Below w.heap.size w wx∧∃ D,wx.ownsMap Tryz.prog 9 R1 w.heap.size own.length D∧ValsD D (lessM m ((asked.take q).map fun x=>x.name))))
 case atStart=>exact ⟨0,by omega,rfl,Blk.Aside.intro ⟨rfl,B1.out,D0,M1.out,by rw [List.take_zero,List.map_nil,lessM_nil];exact D1.out⟩⟩
 case round =>
  obtain ⟨q,hq,rfl,HX⟩:=hrel
  obtain ⟨hI,hbx,D,hmx,hdx⟩:=HX.out
  have HI:=Hd hI
  have BX:=Hd hbx
  have MX:=Hd hmx
  have DX:=Hd hdx
  clear HX hI hbx hmx hdx B1 M1 D1
  cases gk with
  | zero =>
    obtain rfl:q=asked.length:=by omega
    rw [List.take_length] at DX
    have HA:=Hd (HE.out.trans (by rw [HI.out,Bool.true_and]))
    have hown:=MX.out
    go_wp2_with (at_range;refine wpList_range_own _ rfl _ 150 rfl 9 60 (Maps.string_keyed Tryz.underlying9) Tryz.underlying150 _ w.heap.size own.length D rfl hown ?_;intro w0 hrg0 hg0 hs0)
    clear hown
    go_frame
    have B2:=Hd (below_grown BX.out hg0 BX.out.size (fun k e=>(by cases e)))
    have R0:=Hd hrg0
    have HRB:Hid (w.heap.size≤wr.heap.size):=Hd BX.out.size
    generalize wr.heap.size=rb at R0 HRB ⊢
    clear hrg0 hg0 hs0 BX MX
    go_loopw [42] (fun _ wx=>∃ left cnt,wx.ranges Tryz.prog 9 R1 w.heap.size rb own.length D left cnt∧Aside (Below w.heap.size w wx∧∀ s x,hasN (asked.map fun y=>y.name) s=false→lastN (fun y:VarT=>y.name) own s=some x→left (.string s.data.toList)=false→okN own s=true)) (fun _ wx=>wx.rangeLeft w.heap.size rb)
    case atStart =>
      refine ⟨_,_,R0.out,Blk.Aside.intro ⟨B2.out,fun s x h1 h2 h3=>?_⟩⟩
      rw [DX.out.2.1 s] at h3
      unfold lessM at h3
      rw [h1,if_neg (by decide)] at h3
      obtain ⟨cs,h4,_⟩:=HH.out.some_at h2
      rw [h4] at h3
      cases h3
    case round =>
      obtain ⟨left,cnt,hrg,hz⟩:=hrel
      have HZ:=Hd hz.out.2
      have B3:=Hd hz.out.1
      clear hz B2 R0
      go_wp2_with (at_next;go_loud (refine wpList_nextV rfl _ rfl 9 Tryz.underlying9 w.heap.size rb own.length D _ left cnt rfl hrg DX.out ?_ ?_))
      · intro hl0
        have HK:=Hd (HA.out.trans (rest_yes (fun s x h1 h2=>HZ.out s x h1 h2 (hl0 _))))
        clear hl0
        go_wp2_with fail
        go_ret
        exact ⟨by rw [HK.out];rfl,B3.out⟩
      · intro s u w4 cnt4 hl hu hrg4 hlt4 hg4 hs4 hen
        obtain ⟨hn,hu⟩:=less_some hu
        obtain ⟨y,cs,hy,rfl,hT⟩:=held_of HH.out hu
        obtain ⟨E3,j3,E4,j4,rfl,_,htn⟩:=var_cells hT
        have HY:=Hd hy
        have HNS:=Hd hn
        have B4:=Hd (below_grown B3.out hg4 B3.out.size (fun k e=>by injection e with e;have:=HRB.out;omega))
        have HU:Hid (okN own s = !(isB y.tn.data.toList y.tl y.tm && !y.has)):=Hd (by unfold okN;rw [hy])
        have IS:=Hd (fun (wx:World)=>wis_any y.tn y.tl y.tm wx htn)
        have HLT:=Hd hlt4
        have HLL:=Hd hl
        have HRG:=Hd hrg
        clear hl hu hlt4 hg4 hs4 hT hy hn hrg
        go_upto_region 13 with fail
        clear hen
        have bn:=dbelow_new w4 (.cells #[.string y.name,.string y.tn,.int .i64 y.tl,.int .i64 y.tm,.bool y.has,.int .i64 y.v.kd,.int .i64 y.v.nn,.string y.v.ss,.slice E3 y.v.ls.len j3,.slice E4 y.v.ms.len j4] 60)
        have B5:=Hd (B4.out.trans (bn.mono B4.out.size))
        have Y5:=Hd (heap_alloc_new w4 (.cells #[.string y.name,.string y.tn,.int .i64 y.tl,.int .i64 y.tm,.bool y.has,.int .i64 y.v.kd,.int .i64 y.v.nn,.string y.v.ss,.slice E3 y.v.ls.len j3,.slice E4 y.v.ms.len j4] 60))
        have R5:=Hd (ranges_on hrg4 bn)
        generalize w4.alloc (.cells #[.string y.name,.string y.tn,.int .i64 y.tl,.int .i64 y.tm,.bool y.has,.int .i64 y.v.kd,.int .i64 y.v.nn,.string y.v.ss,.slice E3 y.v.ls.len j3,.slice E4 y.v.ms.len j4] 60)=w5 at B5 Y5 R5 ⊢
        generalize w4.heap.size=g5 at Y5 ⊢
        clear bn B4 hrg4
        obtain ⟨⟨y0,y1,y2,y3,y4,y5,y6,y7,y8,y9⟩,_⟩:=ten_cells Y5.out
        generalize isB y.tn.data.toList y.tl y.tm=ib at HU IS
        go_wp2_with fail
        refine (IS.out _).mono ?_
        rintro e w6 ⟨rfl,hb6⟩
        have B6:=Hd (B5.out.trans (hb6.mono B5.out.size))
        have Y6:=Hd ((hb6.block _ (Array.getElem?_eq_some_iff.1 Y5.out).1).trans Y5.out)
        have R6:=Hd (ranges_on R5.out hb6)
        clear hb6 y0 y1 y2 y3 y4 y5 y6 y7 y8 y9 B5 Y5 R5 IS
        obtain ⟨⟨y0,y1,y2,y3,y4,y5,y6,y7,y8,y9⟩,_⟩:=ten_cells Y6.out
        have NX:Hid (okN own s=true→∀ s' x,hasN (asked.map fun y=>y.name) s'=false→lastN (fun y:VarT=>y.name) own s'=some x→(left (.string s'.data.toList) && !(Lit.string s'.data.toList).sameKey (.string s.data.toList))=false→okN own s'=true):=Hd (fun hok s' x h1 h2 h3=>by
          by_cases e:s'=s
          · rw [e];exact hok
          · cases hl:left (.string s'.data.toList) with
            | false=>exact HZ.out s' x h1 h2 hl
            | true =>
              rw [hl,Bool.true_and] at h3
              have hk:(Lit.string s'.data.toList).sameKey (.string s.data.toList)=true:=by simpa using h3
              exact absurd (WideAt.sameKey_eq hk) (key_ne e))
        cases ib with
        | false =>
          have HOK:=Hd (NX.out (HU.out.trans rfl))
          clear y2
          go_wp2_with fail
          go_roundw
          case rel=>exact ⟨_,cnt4,R6.out,Blk.Aside.intro ⟨B6.out,HOK.out⟩⟩
          case measure=>rw [R6.out.left_eq,HRG.out.left_eq];exact HLT.out
        | true =>
          cases hh:y.has with
          | true =>
            rw [hh] at y4 HU
            have HOK:=Hd (NX.out (HU.out.trans rfl))
            go_wp2_with fail
            go_roundw
            case rel=>exact ⟨_,cnt4,R6.out,Blk.Aside.intro ⟨B6.out,HOK.out⟩⟩
            case measure=>rw [R6.out.left_eq,HRG.out.left_eq];exact HLT.out
          | false =>
            rw [hh] at y4 HU
            have HK:=Hd (HA.out.trans (rest_no HNS.out HY.out (HU.out.trans rfl)))
            go_wp2_with fail
            go_ret
            exact ⟨by rw [HK.out];rfl,B6.out⟩
  | succ g =>
    have hqn:q < asked.length:=by omega
    have hqn':(q:Int) < (asked.length:Int):=by omega
    obtain ⟨p,hx⟩:∃ x,asked[q]? = some x:=⟨_,List.getElem?_eq_getElem hqn⟩
    have hks:=HN.out p (List.mem_of_getElem? hx)
    obtain ⟨b,o,cs,rfl,hb,hc,hT⟩:=rowOf_at 10 len_par HR.out hx
    have HBL:=Hd (Nat.lt_of_lt_of_le hb HB.out)
    obtain ⟨A3,k3,A4,k4,rfl,_,htn⟩:=var_cells hT
    have g0:=(BX.out.cell (p:=⟨b,o+q*10,none⟩) HBL.out).trans (hc 0 _ rfl)
    have g1:=(BX.out.cell (p:=⟨b,o+q*10+1,none⟩) HBL.out).trans (hc 1 _ rfl)
    have g2:=(BX.out.cell (p:=⟨b,o+q*10+2,none⟩) HBL.out).trans (hc 2 _ rfl)
    have g3:=(BX.out.cell (p:=⟨b,o+q*10+3,none⟩) HBL.out).trans (hc 3 _ rfl)
    have g4:=(BX.out.cell (p:=⟨b,o+q*10+4,none⟩) HBL.out).trans (hc 4 _ rfl)
    have g5:=(BX.out.cell (p:=⟨b,o+q*10+5,none⟩) HBL.out).trans (hc 5 _ rfl)
    have g6:=(BX.out.cell (p:=⟨b,o+q*10+6,none⟩) HBL.out).trans (hc 6 _ rfl)
    have g7:=(BX.out.cell (p:=⟨b,o+q*10+7,none⟩) HBL.out).trans (hc 7 _ rfl)
    have g8:=(BX.out.cell (p:=⟨b,o+q*10+8,none⟩) HBL.out).trans (hc 8 _ rfl)
    have g9:=(BX.out.cell (p:=⟨b,o+q*10+9,none⟩) HBL.out).trans (hc 9 _ rfl)
    have HX:=Hd hx
    have HU:=Hd (askAt_eq (own:=own) hx)
    have HTK:Hid ((asked.take (q+1)).map (fun x=>x.name)=(asked.take q).map (fun x=>x.name)++[p.name]):=Hd (by rw [List.take_add_one,hx,List.map_append];rfl)
    have HQ:=Hd hqn
    clear hx hb hc hT
    go_upto_region 5 with fail
    clear g0 g1 g2 g3 g4 g5 g6 g7 g8 g9
    have bn:=dbelow_new wr (.cells #[.string p.name,.string p.tn,.int .i64 p.tl,.int .i64 p.tm,.bool p.has,.int .i64 p.v.kd,.int .i64 p.v.nn,.string p.v.ss,.slice A3 p.v.ls.len k3,.slice A4 p.v.ms.len k4] 60)
    have B2:=Hd (BX.out.trans (bn.mono BX.out.size))
    have Y2:=Hd (heap_alloc_new wr (.cells #[.string p.name,.string p.tn,.int .i64 p.tl,.int .i64 p.tm,.bool p.has,.int .i64 p.v.kd,.int .i64 p.v.nn,.string p.v.ss,.slice A3 p.v.ls.len k3,.slice A4 p.v.ms.len k4] 60))
    have M2:=Hd (map_onV MX.out bn)
    generalize wr.alloc (.cells #[.string p.name,.string p.tn,.int .i64 p.tl,.int .i64 p.tm,.bool p.has,.int .i64 p.v.kd,.int .i64 p.v.nn,.string p.v.ss,.slice A3 p.v.ls.len k3,.slice A4 p.v.ms.len k4] 60)=w2 at B2 Y2 M2 ⊢
    generalize wr.heap.size=g2 at Y2 ⊢
    clear bn BX MX
    obtain ⟨⟨y0,y1,y2,y3,y4,y5,y6,y7,y8,y9⟩,_⟩:=ten_cells Y2.out
    have hzv:∀ w:World,(zeroValue 60).run Tryz.prog w=.ok (.agg #[.string ⟨#[]⟩,.string ⟨#[]⟩,.int .i64 0,.int .i64 0,.bool false,.int .i64 0,.int .i64 0,.string ⟨#[]⟩,.slice none 0 0,.slice none 0 0]) w:=fun w=>by rfl
    cases hmm:lessM m ((asked.take q).map fun x=>x.name) p.name with
    | none =>
      have HNO:Hid (standB own asked=false):=Hd (by rw [HE.out,range_no HQ.out (HU.out.trans (ask_none HH.out hmm)),Bool.false_and])
      go_upto_region 6 with (at_lookup;refine wpList_lookV rfl _ _ 150 rfl 9 60 Tryz.underlying9 Tryz.underlying150 (hzv _) w.heap.size own.length D _ rfl M2.out DX.out p.name rfl hks _ _ (LookV.no hmm) ?_)
      have bn:=dbelow_new w2 (.cells #[.string ⟨#[]⟩,.string ⟨#[]⟩,.int .i64 0,.int .i64 0,.bool false,.int .i64 0,.int .i64 0,.string ⟨#[]⟩,.slice none 0 0,.slice none 0 0] 60)
      have B3:=Hd (B2.out.trans (bn.mono B2.out.size))
      generalize w2.alloc (.cells #[.string ⟨#[]⟩,.string ⟨#[]⟩,.int .i64 0,.int .i64 0,.bool false,.int .i64 0,.int .i64 0,.string ⟨#[]⟩,.slice none 0 0,.slice none 0 0] 60)=w3 at B3 ⊢
      clear bn hmm
      go_wp2_with fail
      go_ret
      exact ⟨by rw [HNO.out];rfl,B3.out⟩
    | some u =>
      obtain ⟨hn,hu⟩:=less_some hmm
      obtain ⟨y,cs,hy,rfl,hT⟩:=held_of HH.out hu
      obtain ⟨E3,j3,E4,j4,rfl,_,_⟩:=var_cells hT
      have HA:=Hd (HU.out.trans (ask_some hn hy))
      go_upto_region 6 with (at_lookup;refine wpList_lookV rfl _ _ 150 rfl 9 60 Tryz.underlying9 Tryz.underlying150 (hzv _) w.heap.size own.length D _ rfl M2.out DX.out p.name rfl hks _ _ (LookV.yes hmm) ?_)
      have bn:=dbelow_new w2 (.cells #[.string y.name,.string y.tn,.int .i64 y.tl,.int .i64 y.tm,.bool y.has,.int .i64 y.v.kd,.int .i64 y.v.nn,.string y.v.ss,.slice E3 y.v.ls.len j3,.slice E4 y.v.ms.len j4] 60)
      have B3:=Hd (B2.out.trans (bn.mono B2.out.size))
      have Y3:=Hd (heap_alloc_new w2 (.cells #[.string y.name,.string y.tn,.int .i64 y.tl,.int .i64 y.tm,.bool y.has,.int .i64 y.v.kd,.int .i64 y.v.nn,.string y.v.ss,.slice E3 y.v.ls.len j3,.slice E4 y.v.ms.len j4] 60))
      have P3:=Hd ((bn.block _ (Array.getElem?_eq_some_iff.1 Y2.out).1).trans Y2.out)
      have M3:=Hd (map_onV M2.out bn)
      generalize w2.alloc (.cells #[.string y.name,.string y.tn,.int .i64 y.tl,.int .i64 y.tm,.bool y.has,.int .i64 y.v.kd,.int .i64 y.v.nn,.string y.v.ss,.slice E3 y.v.ls.len j3,.slice E4 y.v.ms.len j4] 60)=w3 at B3 Y3 P3 M3 ⊢
      generalize w2.heap.size=g3 at Y3 ⊢
      clear bn hmm hn hu hT hy y0 y1 y2 y3 y4 y5 y6 y7 y8 y9 Y2 M2 B2
      obtain ⟨⟨y0,y1,y2,y3,y4,y5,y6,y7,y8,y9⟩,_⟩:=ten_cells P3.out
      obtain ⟨⟨z0,z1,z2,z3,z4,z5,z6,z7,z8,z9⟩,_⟩:=ten_cells Y3.out
      cases e1:(y.tn.toList == p.tn.toList) with
      | false =>
        rw [e1] at HA
        have HNO:Hid (standB own asked=false):=Hd (by rw [HE.out,range_no HQ.out (HA.out.trans rfl),Bool.false_and])
        cases e2:(y.tl == p.tl)<;>cases e3:(y.tm == p.tm)
        all_goals go_wp2_with fail
        all_goals go_ret
        all_goals exact ⟨by rw [HNO.out];rfl,B3.out⟩
      | true =>
        rw [e1] at HA
        cases e2:(y.tl == p.tl) with
        | false =>
          rw [e2] at HA
          have HNO:Hid (standB own asked=false):=Hd (by rw [HE.out,range_no HQ.out (HA.out.trans rfl),Bool.false_and])
          cases e3:(y.tm == p.tm)
          all_goals go_wp2_with fail
          all_goals go_ret
          all_goals exact ⟨by rw [HNO.out];rfl,B3.out⟩
        | true =>
          rw [e2] at HA
          cases e3:(y.tm == p.tm) with
          | false =>
            rw [e3] at HA
            have HNO:Hid (standB own asked=false):=Hd (by rw [HE.out,range_no HQ.out (HA.out.trans rfl),Bool.false_and])
            go_wp2_with fail
            go_ret
            exact ⟨by rw [HNO.out];rfl,B3.out⟩
          | true =>
            rw [e3] at HA
            have HOK:=Hd (range_next HI.out (HA.out.trans rfl))
            go_wp2_with (at_delete;refine wpList_delV rfl _ _ 150 9 rfl 60 Tryz.underlying9 Tryz.underlying150 w.heap.size own.length D _ rfl M3.out DX.out p.name rfl hks ?_;intro w5 D5 hm5 hd5 ht5)
            have M5:=Hd hm5
            have D5':=Hd hd5
            have B5:=Hd (turned_low B3.out ht5 (Nat.le_refl _) (Nat.le_refl _))
            clear hm5 hd5 ht5
            go_roundg g
            case measure=>omega
            case rel=>exact ⟨q+1,by omega,by go_num,Blk.Aside.intro ⟨HOK.out,B5.out,D5,M5.out,by rw [HTK.out,← lessM_del];exact D5'.out⟩⟩
end Go.Proofs.YtaekdfcpbepepaaGreatDoor
