/- The walk of token's escaped. -/
import Derived.Test.YtkacnnhdfkpenaaGreatDoorSj20
set_option maxRecDepth 100000
set_option maxHeartbeats 1000000
namespace Go.Proofs.YtkacnnhdfkpenaaGreatDoor
open Go.RowKit
theorem info_i:(Tryz.prog.info? 3).map (fun i=>(i.zero,i.size,i.bytes))=some (some (.int .i64 0),1,8):=by kernel_rfl
theorem own_shape {w:World} {base:Nat} {e:TypeId} {v:Value} {n:Nat} {xs:List Value} (h:w.ownsRow base e 1 v n xs):∃ A cap,v=.slice A n cap:=by
 rcases h.2 with ⟨hv,hn⟩|⟨g,cap,cur,hv,_⟩
 · exact ⟨none,0,by rw [hv,hn]⟩
 · exact ⟨_,_,hv⟩
theorem ints_own {w:World} {base n:Nat} {A:Option Addr} {cap:Nat} {us:List Int} (h:w.ownsRow base 3 1 (.slice A n cap) us.length (us.map (Value.int .i64))):n=us.length∧IntsAt w w.heap.size A us.length us:=by
 rcases h.2 with ⟨hv,hn⟩|⟨g,c,cur,hv,hbase,hh,hnc,hm,hcs,htk⟩
 · injection hv with h1 h2 h3
   have hus:us=[]:=List.eq_nil_of_length_eq_zero hn
   subst hus
   exact ⟨by simpa using h2,⟨rfl,fun j z hz=>by simp at hz⟩⟩
 · have hv':=hv
   injection hv' with h1 h2 h3
   subst h1
   refine ⟨h2,rfl,fun j z hz=>⟨g,0,rfl,?_,?_⟩⟩
   · exact (h.lt g rfl).2
   · subst h2 h3
     rw [Nat.zero_add,World.ownsRow.cellAt h j (by have:=(List.getElem?_eq_some_iff.1 hz).1;omega),List.getElem?_map,hz]
     rfl
def escS (l:List UInt8):Value:=match escL l with|some p=>.tuple #[.string ⟨p.1.toArray⟩,.int .i64 p.2]|none=>.tuple #[.string ⟨#[]⟩,.int .i64 0]
def escChars:List UInt8:=[34,92,47,98,102,110,114,116]
def escMeant:List UInt8:=[34,92,47,8,12,10,13,9]
theorem esc_none:∀ c:UInt8,Lib.indexByte escChars c < 0→escB c=none:=byte_all (by decide +kernel)
theorem esc_some:∀ c:UInt8,¬ Lib.indexByte escChars c < 0→Lib.indexByte escChars c≤7∧escB c=some (escMeant.getD (Lib.indexByte escChars c).toNat 0):=byte_all (by decide +kernel)
theorem meant_at {j:Nat} (hj:j < 8) (w:World):(Instr.slice 9 (.string ⟨#[34,92,47,8,12,10,13,9]⟩) (some (.int .i64 (j:Int))) (some (.int .i64 ((j:Int)+1))) none).run Tryz.prog w=.ok (.string ⟨#[escMeant.getD j 0]⟩) w:=by
 rcases (by omega:j=0∨j=1∨j=2∨j=3∨j=4∨j=5∨j=6∨j=7) with rfl|rfl|rfl|rfl|rfl|rfl|rfl|rfl<;>kernel_rfl
theorem own_below {B:Nat} {e:TypeId} {k:Nat} {v:Value} {n:Nat} {xs:List Value} {w w':World} (h:w.ownsRow B e k v n xs) (hb:Below w.heap.size w w'):w'.ownsRow B e k v n xs:=
 h.kept (row:=none) ⟨hb.os,hb.tape,hb.output,hb.size,fun j hj _=>hb.block j hj⟩ (Classical.em _)
def runTo (l:List UInt8) (N:Nat) (us:List Int):Prop:=N=6*us.length∧hexRun l=us++hexRun (l.drop N)
theorem runTo.next {l:List UInt8} {N:Nat} {us:List Int} {u:Int} (h:runTo l N us) (hu:unitAt (l.drop N)=some u):runTo l (N+6) (us++[u]):=by
 refine ⟨by rw [h.1];simp;omega,?_⟩
 rw [h.2,hexRun_some hu,List.drop_drop]
 simp
theorem runTo.done {l:List UInt8} {N:Nat} {us:List Int} (h:runTo l N us) (hu:unitAt (l.drop N)=none):hexRun l=us:=by rw [h.2,hexRun_none hu,List.append_nil]
def ouI (o:Option Int):Int:=match o with|some u=>u|none=>0
theorem unitS_ou {l:List UInt8} {o:Option Int} (h:unitAt l=o):unitS l=.tuple #[.int .i64 (ouI o),.bool o.isSome]:=by
 unfold unitS
 rw [h]
 cases o<;>rfl
theorem escaped_any (s:ByteArray) (w:World) (hs:s.size≤9000) (h3:Laid3 w):Calls Tryz.prog 255 #[.string s] w fun e w'=>e=.returned (escS s.data.toList)∧Below w.heap.size w w':=by
 obtain ⟨i0,hi,hz0,hz1,hz2⟩:=info_parts info_i
 have hU:=unit_any s w hs h3
 obtain ⟨o0,ho0⟩:∃ o,unitAt s.data.toList=o:=⟨_,rfl⟩
 rw [unitS_ou ho0] at hU
 have HU:=Hd hU
 have H3:=Hd h3
 have HO0:=Hd ho0
 clear hU h3 ho0
 go_enter Tryz.func255,Tryz.ntmps255
 go_wp2_with fail
 refine HU.out.mono ?_
 rintro e w1 ⟨rfl,hb⟩
 have HB0:=Hd hb
 clear hb
 go_wp2_with fail
 go_loopg [4,5,6,7] s.size (fun g un nv uv ov wx=>∃ (N:Nat) (us:List Int) (o:Option Int),N+g=s.size∧nv=.int .i64 N∧uv=.int .i64 (ouI o)∧ov=.bool o.isSome∧us.length≤N∧Aside (runTo s.data.toList N us)∧Aside (unitAt (s.data.toList.drop N)=o)∧wx.ownsRow w.heap.size 3 1 un us.length (us.map (Value.int .i64))∧Below w.heap.size w wx)
 case atStart=>exact ⟨0,[],o0,by omega,rfl,rfl,rfl,by simp,Aside.intro ⟨rfl,rfl⟩,Aside.intro HO0.out,World.ownsRow_nil _ _ _ _,HB0.out⟩
 case round =>
  obtain ⟨N,us,o,hN,rfl,rfl,rfl,hul,HR,HO,hown,hb⟩:=hrel
  obtain ⟨A,cap,rfl⟩:=own_shape hown
  have HB:=Hd hb
  have hbs:=hb.size
  have H3r:=Hd (H3.out.below hb)
  clear hb
  cases o with
  | none =>
    have hrun:=Hd (HR.out.done HO.out)
    rcases Nat.eq_zero_or_pos N with hz|hz
    · -- no unit: a single sign
      have hus:us=[]:=List.eq_nil_of_length_eq_zero (by have:=HR.out.1;omega)
      have hn0 : ¬ (0:Int) < (N:Int):=by omega
      rw [hus] at hrun
      clear HR HO hus hz
      by_cases h2:s.size < 2
      · have h2':(s.size:Int) < 2:=by omega
        have hr:Hid (escS s.data.toList=.tuple #[.string ⟨#[]⟩,.int .i64 0]):=Hd (by
          have hl:=len_data s
          unfold escS escL
          rw [if_pos hrun.out]
          match s.data.toList,hl with
          | [],_=>rfl
          | [_],_=>rfl
          | _ :: _ :: _,hl=>simp only [List.length_cons] at hl;omega)
        clear hrun hown
        go_wp2_with fail
        go_ret2
        exact ⟨by rw [hr.out];rfl,HB.out⟩
      · have h2' : ¬ (s.size:Int) < 2:=by omega
        have h1s:1 < s.size:=by omega
        have he:escL s.data.toList=(escB s[1]).map fun x=>([x],2):=by
          unfold escL
          rw [if_pos hrun.out]
          have h0:=cons_at s (by omega)
          rw [drop_at s 1 h1s] at h0
          rw [h0]
        have hI:=indexByte_any ⟨#[34,92,47,98,102,110,114,116]⟩ (s[1].toNat:Int) wr
        rw [show ((s[1].toNat:Int).toNat.toUInt8)=s[1] by simp] at hI
        have en:=esc_none s[1]
        have es:=esc_some s[1]
        obtain ⟨r,hr⟩:∃ r,Lib.indexByte (⟨#[34,92,47,98,102,110,114,116]⟩:ByteArray).data.toList s[1]=r:=⟨_,rfl⟩
        change (Lib.indexByte escChars s[1])=r at hr
        change Calls _ _ _ _ fun e w'=>e=.returned (.int .i64 (Lib.indexByte escChars s[1]))∧w'=wr at hI
        rw [hr] at hI en es
        have HI:=Hd hI
        clear hI hr hrun hown
        by_cases hneg:r < 0
        · have hr':Hid (escS s.data.toList=.tuple #[.string ⟨#[]⟩,.int .i64 0]):=Hd (by unfold escS;rw [he,en hneg];rfl)
          clear he en es
          go_wp2_with fail
          refine HI.out.mono ?_
          rintro e w2 ⟨rfl,rfl⟩
          go_wp2_with fail
          go_ret2
          exact ⟨by rw [hr'.out];rfl,HB.out⟩
        · obtain ⟨e7,ex⟩:=es hneg
          obtain ⟨j,rfl⟩:∃ j:Nat,r=j:=⟨r.toNat,by omega⟩
          have hj7:j < 8:=by omega
          obtain ⟨X,hX⟩:∃ X,escMeant.getD j 0=X:=⟨_,rfl⟩
          have hr':Hid (escS s.data.toList=.tuple #[.string ⟨#[X]⟩,.int .i64 2]):=Hd (by
           unfold escS
           rw [he,ex,Int.toNat_natCast,hX]
           rfl)
          have hM:=fun w=>meant_at hj7 w
          rw [hX] at hM
          have hj8:(j:Int)+1≤8:=by omega
          clear he en es ex e7 hX
          go_wp2_with fail
          refine HI.out.mono ?_
          rintro e w2 ⟨rfl,rfl⟩
          go_wp2_with fail
          go_ret2
          exact ⟨by rw [hr'.out];rfl,HB.out⟩
    · have hn0:(0:Int) < (N:Int):=by omega
      have hio:=ints_own hown
      have hJ:=join_any A us.length cap us wr (by omega) hio.2
      have hne:us ≠ []:=by intro e;have:=HR.out.1;rw [e] at this;simp at this;omega
      have HN6:Hid (N=6*us.length):=Hd HR.out.1
      obtain ⟨J,hJs⟩:∃ J,joinS us=J:=⟨_,rfl⟩
      cases hjo:joinOk us
      · rw [hjo,hJs] at hJ
        have HJ:=Hd hJ
        have hr:Hid (escS s.data.toList=.tuple #[.string ⟨#[]⟩,.int .i64 0]):=Hd (by
          unfold escS escL
          rw [hrun.out,if_neg hne]
          unfold joinOk at hjo
          cases hj:joinL us with
          | none=>rfl
          | some x=>rw [hj] at hjo;cases hjo)
        clear hJ hjo hJs hrun HR HO hio hown
        go_wp2_with fail
        refine HJ.out.mono ?_
        rintro e w2 ⟨rfl,hb2⟩
        have HB2:=Hd hb2
        clear hb2
        go_wp2_with fail
        go_ret2
        exact ⟨by rw [hr.out];rfl,HB.out.trans (HB2.out.mono hbs)⟩
      · rw [hjo,hJs] at hJ
        have HJ:=Hd hJ
        have hr:Hid (escS s.data.toList=.tuple #[.string J,.int .i64 N]):=Hd (by
          unfold escS escL
          rw [hrun.out,if_neg hne]
          unfold joinOk at hjo
          unfold joinS at hJs
          cases hj:joinL us with
          | none=>rw [hj] at hjo;cases hjo
          | some x=>rw [hj] at hJs;subst hJs;rw [HN6.out];rfl)
        clear hJ hjo hJs hrun HR HO hio hown
        go_wp2_with fail
        refine HJ.out.mono ?_
        rintro e w2 ⟨rfl,hb2⟩
        have HB2:=Hd hb2
        clear hb2
        go_wp2_with fail
        go_ret2
        exact ⟨by rw [hr.out];rfl,HB.out.trans (HB2.out.mono hbs)⟩
  | some u =>
    have h6:N+6≤s.size:=by
      have:=unitAt_len HO.out
      rw [List.length_drop,len_data] at this
      omega
    have h6':(N:Int)+6≤(s.size:Int):=by omega
    have hN0:(0:Int)≤(N:Int)+6:=by omega
    have hR:=Hd (HR.out.next HO.out)
    have hub:=unitAt_bd HO.out
    obtain ⟨o2,ho2⟩:∃ o,unitAt (s.data.toList.drop (N+6))=o:=⟨_,rfl⟩
    have HO2:=Hd ho2
    clear HR HO ho2
    go_wp2_with (at_builtin;refine wpList_append_own _ rfl _ _ 244 rfl w.heap.size 3 i0 (.int .i64 0) 1 8 Tryz.underlying244 hi hz0 hz1 hz2 rfl (by decide) _ _ _ rfl (hown.alloc _) ⟨wr.heap.size,0,none⟩ 1 1 [.int .i64 u] rfl rfl (cell_one_new _ _ _) (by intro x hx;simp at hx;rcases hx with rfl;rfl) (by unfold maxLen;omega) (by omega) (by simp;omega) ?_;intro v' w3 hown' hgrow _;obtain ⟨A',cap',rfl⟩:=own_shape hown';have HG:=Hd hgrow;have HO:=Hd hown';have HW:=Hd hown;clear hgrow hown' hown)
    have hb3:=(HB.out.alloc HB.out.size (.cells #[.int .i64 u] 3)).grown HG.out (by simp;omega) (fun q hq=>(HW.out.lt q hq).1)
    have hU2:=unit_at s (N+6) w3 hs (H3.out.below hb3)
    rw [unitS_ou HO2.out] at hU2
    have HU2:=Hd hU2
    have HB3:=Hd hb3
    clear hU2 hb3
    refine HU2.out.mono ?_
    rintro e w4 ⟨rfl,hb4⟩
    have HB4:=Hd hb4
    clear hb4
    go_wp2_with fail
    go_roundg (gk - 6)
    case measure=>omega
    case rel=>exact ⟨N+6,us++[u],o2,by omega,by go_num,rfl,rfl,by simp;omega,Aside.intro hR.out,Aside.intro HO2.out,by rw [List.map_append,List.length_append];exact own_below HO.out HB4.out,HB3.out.trans (HB4.out.mono HB3.out.size)⟩
end Go.Proofs.YtkacnnhdfkpenaaGreatDoor
namespace Go.Proofs.YtkacnnhdfkpenaaGreatDoor.Blk
open Go.RowKit
theorem plines_any (s:ByteArray) (w:World) (hs:s.size≤13000) :
  Calls Tryz.prog 292 #[.string s] w fun e w'=>∃ A cap,e=.returned (.slice A (linesB s.data.toList).length cap)∧w'.ownsRow w.heap.size 9 1 (.slice A (linesB s.data.toList).length cap) (linesB s.data.toList).length ((linesB s.data.toList).map Value.string)∧Below w.heap.size w w':=by
 obtain ⟨i0,hi,hz0,hz1,hz2⟩:=info_str
 go_enter Tryz.func292,Tryz.ntmps292
 go_wp2
 go_loopg [3,4,5] s.size (fun g out fr i wx=>∃ (k f:Nat) (done:List ByteArray),f≤k∧k+g=s.size∧i=.int .i64 k∧fr=.int .i64 f∧done.length≤k∧Aside (LinesTo s f k done)∧wx.ownsRow w.heap.size 9 1 out done.length (done.map Value.string)∧Below w.heap.size w wx)
 case atStart=>exact ⟨0,0,[],by omega,by omega,rfl,rfl,by simp,Aside.intro ⟨by simp,by simp [plainL]⟩,World.ownsRow_nil _ _ _ _,Below.refl _ _⟩
 case round =>
  obtain ⟨k,f,done,hfk,hk,rfl,rfl,hdl,H,hown,hb⟩:=hrel
  obtain ⟨A,cap,rfl⟩:=own_form hown
  have hf0:(0:Int)≤(f:Int):=by omega
  have hfk':(f:Int)≤(k:Int):=by omega
  have hks:(k:Int)≤(s.size:Int):=by omega
  have HB:=Hd hb
  have hbs:=hb.size
  clear hb
  cases gk with
  | zero =>
    obtain rfl:k=s.size:=by omega
    have hdone:=Hd (H.out.done)
    clear H
    go_wp2_with (at_builtin;refine wpList_append_own _ rfl _ _ 64 rfl w.heap.size 9 i0 (.string ByteArray.empty) 1 16 Tryz.underlying64 hi hz0 hz1 hz2 rfl (by decide) _ _ _ rfl (hown.alloc _) ⟨wr.heap.size,0,none⟩ 1 1 [.string (s.extract f s.size)] rfl rfl (cell_one_new _ _ _) (by intro x hx;simp at hx;rcases hx with rfl;rfl) (by unfold maxLen;omega) (by omega) (by simp;omega) ?_;intro v' w3 hown' hgrow _;obtain ⟨A',cap',rfl⟩:=own_form hown';have HG:=Hd hgrow;have HO:=Hd hown';have HW:=Hd hown;clear hgrow hown' hown)
    go_ret
    refine ⟨A',cap',?_,?_,(HB.out.alloc HB.out.size _).grown HG.out (by simp;omega) (fun q hq=>(HW.out.lt q hq).1)⟩
    · rw [hdone.out,List.length_append];rfl
    · rw [hdone.out,List.map_append,List.length_append];exact HO.out
  | succ g =>
    have hlt:k < s.size:=by omega
    have hlt':(k:Int) < (s.size:Int):=by omega
    by_cases c10:s[k]=10
    · have n10:((s[k].toNat:Int) != 10)=false:=by rw [c10];rfl
      have n13:((s[k].toNat:Int) == 13)=false:=by rw [c10];rfl
      have hT:=Hd (H.out.ten hfk hlt c10)
      clear H c10
      go_wp2_with (at_builtin;refine wpList_append_own _ rfl _ _ 64 rfl w.heap.size 9 i0 (.string ByteArray.empty) 1 16 Tryz.underlying64 hi hz0 hz1 hz2 rfl (by decide) _ _ _ rfl (hown.alloc _) ⟨wr.heap.size,0,none⟩ 1 1 [.string (s.extract f k)] rfl rfl (cell_one_new _ _ _) (by intro x hx;simp at hx;rcases hx with rfl;rfl) (by unfold maxLen;omega) (by omega) (by simp;omega) ?_;intro v' w3 hown' hgrow _;obtain ⟨A',cap',rfl⟩:=own_form hown';have HG:=Hd hgrow;have HO:=Hd hown';have HW:=Hd hown;clear hgrow hown' hown)
      go_roundg g
      case measure=>omega
      case rel=>exact ⟨k+1,k+1,done++[s.extract f k],by omega,by omega,by go_num,by go_num,by simp;omega,Aside.intro hT.out,by rw [List.map_append,List.length_append];exact HO.out,(HB.out.alloc HB.out.size _).grown HG.out (by simp;omega) (fun q hq=>(HW.out.lt q hq).1)⟩
    by_cases c13:s[k]=13
    · have n10:((s[k].toNat:Int) != 10)=true:=by rw [c13];rfl
      have n13:((s[k].toNat:Int) != 13)=false:=by rw [c13];rfl
      have m13:((s[k].toNat:Int) == 13)=true:=by rw [c13];rfl
      by_cases hk1:k+1 < s.size
      · have hk1':(k:Int)+1 < (s.size:Int):=by omega
        by_cases d10:s[k+1]=10
        · have m10:((s[k+1].toNat:Int) == 10)=true:=by rw [d10];rfl
          have hT:=Hd (H.out.both hfk hk1 c13 d10)
          clear H c10 c13 d10
          go_wp2_with (at_builtin;refine wpList_append_own _ rfl _ _ 64 rfl w.heap.size 9 i0 (.string ByteArray.empty) 1 16 Tryz.underlying64 hi hz0 hz1 hz2 rfl (by decide) _ _ _ rfl (hown.alloc _) ⟨wr.heap.size,0,none⟩ 1 1 [.string (s.extract f k)] rfl rfl (cell_one_new _ _ _) (by intro x hx;simp at hx;rcases hx with rfl;rfl) (by unfold maxLen;omega) (by omega) (by simp;omega) ?_;intro v' w3 hown' hgrow _;obtain ⟨A',cap',rfl⟩:=own_form hown';have HG:=Hd hgrow;have HO:=Hd hown';have HW:=Hd hown;clear hgrow hown' hown)
          go_roundg (s.size - (k+2))
          case measure=>omega
          case rel=>exact ⟨k+2,k+2,done++[s.extract f k],by omega,by omega,by go_num,by go_num,by simp;omega,Aside.intro hT.out,by rw [List.map_append,List.length_append];exact HO.out,(HB.out.alloc HB.out.size _).grown HG.out (by simp;omega) (fun q hq=>(HW.out.lt q hq).1)⟩
        · have m10:((s[k+1].toNat:Int) == 10)=false:=beq_ne (ne_lit d10)
          have hT:=Hd (H.out.cr hfk hlt c13 (fun _=>d10))
          clear H c10 c13 d10
          go_wp2_with (at_builtin;refine wpList_append_own _ rfl _ _ 64 rfl w.heap.size 9 i0 (.string ByteArray.empty) 1 16 Tryz.underlying64 hi hz0 hz1 hz2 rfl (by decide) _ _ _ rfl (hown.alloc _) ⟨wr.heap.size,0,none⟩ 1 1 [.string (s.extract f k)] rfl rfl (cell_one_new _ _ _) (by intro x hx;simp at hx;rcases hx with rfl;rfl) (by unfold maxLen;omega) (by omega) (by simp;omega) ?_;intro v' w3 hown' hgrow _;obtain ⟨A',cap',rfl⟩:=own_form hown';have HG:=Hd hgrow;have HO:=Hd hown';have HW:=Hd hown;clear hgrow hown' hown)
          go_roundg g
          case measure=>omega
          case rel=>exact ⟨k+1,k+1,done++[s.extract f k],by omega,by omega,by go_num,by go_num,by simp;omega,Aside.intro hT.out,by rw [List.map_append,List.length_append];exact HO.out,(HB.out.alloc HB.out.size _).grown HG.out (by simp;omega) (fun q hq=>(HW.out.lt q hq).1)⟩
      · have hk1' : ¬ ((k:Int)+1 < (s.size:Int)):=by omega
        have hT:=Hd (H.out.cr hfk hlt c13 (fun h=>absurd h hk1))
        clear H c10 c13
        go_wp2_with (at_builtin;refine wpList_append_own _ rfl _ _ 64 rfl w.heap.size 9 i0 (.string ByteArray.empty) 1 16 Tryz.underlying64 hi hz0 hz1 hz2 rfl (by decide) _ _ _ rfl (hown.alloc _) ⟨wr.heap.size,0,none⟩ 1 1 [.string (s.extract f k)] rfl rfl (cell_one_new _ _ _) (by intro x hx;simp at hx;rcases hx with rfl;rfl) (by unfold maxLen;omega) (by omega) (by simp;omega) ?_;intro v' w3 hown' hgrow _;obtain ⟨A',cap',rfl⟩:=own_form hown';have HG:=Hd hgrow;have HO:=Hd hown';have HW:=Hd hown;clear hgrow hown' hown)
        go_roundg g
        case measure=>omega
        case rel=>exact ⟨k+1,k+1,done++[s.extract f k],by omega,by omega,by go_num,by go_num,by simp;omega,Aside.intro hT.out,by rw [List.map_append,List.length_append];exact HO.out,(HB.out.alloc HB.out.size _).grown HG.out (by simp;omega) (fun q hq=>(HW.out.lt q hq).1)⟩
    · have n10:((s[k].toNat:Int) != 10)=true:=bne_ne (ne_lit c10)
      have n13:((s[k].toNat:Int) != 13)=true:=bne_ne (ne_lit c13)
      have hT:Hid (LinesTo s f (k+1) done):=Hd ⟨H.out.1,plain_more hfk hlt H.out.2 (by simp [eolB,c10,c13])⟩
      clear H c10 c13
      go_wp2
      go_roundg g
      case measure=>omega
      case rel=>exact ⟨k+1,f,done,by omega,by omega,by go_num,rfl,by omega,Aside.intro hT.out,hown,HB.out⟩
end Go.Proofs.YtkacnnhdfkpenaaGreatDoor.Blk
