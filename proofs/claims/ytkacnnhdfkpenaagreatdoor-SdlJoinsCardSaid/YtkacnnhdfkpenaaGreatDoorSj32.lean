/- The landed names between signs. -/
import Derived.Test.YtkacnnhdfkpenaaGreatDoorSj31
set_option maxRecDepth 100000
set_option maxHeartbeats 8000000
namespace Go.Proofs.YtkacnnhdfkpenaaGreatDoor
open Go.RowKit
theorem info_str:(Tryz.prog.info? 9).map (fun i=>(i.zero,i.size,i.bytes))=some (some (.string ⟨#[]⟩),1,16):=by kernel_rfl
theorem namesF_end {s:ByteArray} {g:Nat} {acc:List ByteArray} {ts:List Tok} (h:atB 1 s ts=false):namesF s (g+1) acc ts=.ok (acc,ts):=by rw [namesF,if_neg (by rw [h];simp)]
theorem namesF_on {s:ByteArray} {g:Nat} {acc:List ByteArray} {ts:List Tok} (h:atB 1 s ts=true):namesF s (g+1) acc ts=(match nameR ts.tail with
 | none=>.error 2
 | some (n,r)=>namesF s g (acc++[n]) r):=by rw [namesF,if_pos h];rfl
theorem str_lit {w:World} {base:Nat} (n:ByteArray) (hn:n.size≤9000) (hb:base≤w.heap.size):RTr 9 1 base (w.alloc (.cells #[.string n] 9)) (.slice (some ⟨w.heap.size,0,none⟩) 1 1) (rowOf encStr [n]):=
 ⟨[.string n],fun _=>False,World.ownsRow_lit w #[.string n] 1 hb (by decide) rfl,⟨[.string n],[],rfl,TS.str hn (TS.nil _ _),rfl⟩,fun _ h=>h.elim⟩
theorem names_any (s:ByteArray) (d:Nat) (ts:List Tok) (r:Nat) (w:World) (hG:GoodD ts) (hR:Rd w r ts d) (hK:KRd r w):Calls Tryz.prog 222 #[.pointer (some ⟨r,0,none⟩),.string s] w (Post r d w (layR (rowOf encStr)) (namesR s ts)):=by
 suffices H:∀ Q:Ending→World→Prop,(∀ e w',Post r d w (layR (rowOf encStr)) (namesR s ts) e w'→Q e w')→Calls Tryz.prog 222 #[.pointer (some ⟨r,0,none⟩),.string s] w Q from H _ (fun _ _ h=>h)
 intro Q hQ
 obtain ⟨i0,hi,hz0,hz1,hz2⟩:=info_parts info_str
 have HQ:=Hd hQ
 have hr:=hR.lt
 have hlen:ts.length≤200000:=by obtain ⟨_,_,_,_,h,_⟩:=hR;exact h
 have B0:=Hd (And.intro hR (And.intro hK hG))
 clear hQ hG hR hK
 go_enter Tryz.func222,Tryz.ntmps222
 go_wp2_with fail
 refine (skip_any r ts d 1 s _ B0.out.1).mono ?_
 rintro e wa ⟨rfl,ra,ma⟩
 have G0:=Hd (B0.out.2.2.sub (skip_suf 1 s ts))
 have hl0:=(skip_suf 1 s ts).length_le
 have KA:=Hd (And.intro ra (And.intro ma (B0.out.2.1.moved ma)))
 clear ra ma
 go_wp2_with fail
 refine (pname_any r (skipT 1 s ts) d _ KA.out.1).mono ?_
 intro e wb h
 rcases hn:nameR (skipT 1 s ts) with _|p
 · rw [hn] at h
   obtain ⟨rfl,m⟩:=h
   exact ⟨rfl,HQ.out _ _ (per (by unfold namesR;rw [hn]) (KA.out.2.1.trans m))⟩
 obtain ⟨n0,t0⟩:=p
 rw [hn] at h
 obtain ⟨rfl,rb,mb⟩:=h
 obtain ⟨RES,hRES⟩:∃ RES,namesR s ts=RES:=⟨_,rfl⟩
 have HRES:=Hd (show namesF s (t0.length+1) [n0] t0=RES by rw [← hRES];unfold namesR;rw [hn])
 rw [hRES] at HQ
 have GN:=Hd (G0.out.name hn)
 have GB:=Hd (G0.out.sub (name_sfx hn).1)
 have hlb:=(name_sfx hn).2
 have KB:=Hd (And.intro (rb.below (blw wb (.cells #[.string n0] 9))) (And.intro ((KA.out.2.1.trans mb).trans (Moved.of_below (blw wb (.cells #[.string n0] 9)))) (((KA.out.2.2.moved mb)).moved (Moved.of_below (blw wb (.cells #[.string n0] 9))))))
 have TB:=Hd (str_lit (w:=wb) (base:=w.heap.size) n0 GN.out (KA.out.2.1.trans mb).size)
 clear rb mb hn hRES KA
 go_wp2_with fail
 go_loopg [5] (t0.length+1) (fun g out wx=>∃ (acc:List ByteArray) (tq:List Tok),tq.length+1≤g∧tq.length≤t0.length∧acc.length+tq.length≤200001∧Aside (RTr 9 1 w.heap.size wx out (rowOf encStr acc)∧Moved r w wx∧Rd wx r tq d∧KRd r wx∧GoodD tq∧namesF s g acc tq=RES))
 case atStart=>exact ⟨[n0],t0,Nat.le_refl _,Nat.le_refl _,by simp;omega,vaside ⟨TB.out,KB.out.2.1,KB.out.1,KB.out.2.2,GB.out,HRES.out⟩⟩
 case round =>
   obtain ⟨acc,tq,hq,hql,hal,HA⟩:=hrel
   obtain ⟨hrt,hmx,hrx,hkx,hgx,hex⟩:=HA.out
   obtain ⟨Ao,co,rfl⟩:=hrt.shape
   have KX:=Hd (And.intro hmx (And.intro hrx hkx))
   have GX:=Hd hgx
   have EX:=Hd hex
   have HRT:=Hd hrt
   clear HA hmx hrx hkx hgx hex hrt
   cases gk with
   | zero=>omega
   | succ g =>
     go_wp2_with fail
     refine (skip_any r tq d 1 s _ KX.out.2.1).mono ?_
     intro e w1 h
     cases hb:atB 1 s tq with
     | false =>
       rw [hb] at h
       obtain ⟨rfl,r1,m1⟩:=h
       rw [skip_no hb] at r1
       have hE:=EX.out
       rw [namesF_end hb] at hE
       have T5:=Hd ((HRT.out.moved m1 hr).fin (by rw [rowOf_len];omega))
       have R1:=Hd (And.intro r1 (KX.out.1.trans m1))
       have E5:=Hd hE
       clear r1 m1 hE hb
       go_wp2_with fail
       exact HQ.out _ _ (post_ok E5.out.symm T5.out R1.out.1 R1.out.2)
     | true =>
       rw [hb] at h
       obtain ⟨rfl,r1,m1⟩:=h
       rw [skip_yes hb] at r1
       have hE:=EX.out
       rw [namesF_on hb] at hE
       have G1:=Hd (GX.out.sub (at_sfx hb).1)
       have hl1:=(at_sfx hb).2
       have R1:=Hd (And.intro r1 m1)
       have E1:=Hd hE
       clear r1 m1 hE hb
       go_wp2_with fail
       refine (pname_any r tq.tail d _ R1.out.1).mono ?_
       intro e w2 h
       cases hn:nameR tq.tail with
       | none =>
         rw [hn] at h
         obtain ⟨rfl,m⟩:=h
         have hE:=E1.out
         rw [hn] at hE
         exact ⟨rfl,HQ.out _ _ (per hE.symm ((KX.out.1.trans R1.out.2).trans m))⟩
       | some p =>
         obtain ⟨nm,tq2⟩:=p
         rw [hn] at h
         obtain ⟨rfl,r2,m2⟩:=h
         have hE:=E1.out
         rw [hn] at hE
         simp only at hE
         have G3:=Hd (G1.out.sub (name_sfx hn).1)
         have hl2:=(name_sfx hn).2
         have hnm:=Hd (G1.out.name hn)
         have M3:=Hd (R1.out.2.trans m2)
         have R3:=Hd r2
         have E3:=Hd hE
         have T3:=Hd (TS.str hnm.out (TS.nil _ _):TS w2 (Fresh wr w2) (encStr nm) [.string nm])
         have hs3:=M3.out.size
         have hs0:=KX.out.1.size
         obtain ⟨xs,P,hown,hvals,hP⟩:=HRT.out
         have HOW:=Hd (And.intro hown (And.intro hvals hP))
         have O3:=Hd (own_moved hown M3.out hr)
         clear r2 m2 hE hn hown hvals hP
         go_wp2_with (at_builtin;refine wpList_append_lies _ rfl _ _ 64 rfl w.heap.size 9 i0 (.string ⟨#[]⟩) 1 16 Tryz.underlying64 hi hz0 hz1 hz2 rfl (by decide) _ (rowOf encStr acc).len xs rfl (own_low O3.out (blw _ _)) _ 1 1 [.string nm] rfl rfl (fun j u hj=>World.news_of_block (heap_alloc_new _ _) j u hj) (by intro y hy;simp at hy;rcases hy with rfl<;>rfl) (by decide) (by unfold maxLen;rw [rowOf_len];omega) (by rw [rowOf_len];omega) (by simp;omega) _ rfl ?_;intro gg cap2 w4 hown4 hgrow hat hlt4;have HG4:=Hd hgrow;have HO4:=Hd hown4;have HT4:=Hd hat;clear hgrow hown4 hat)
         have hgk:=grown_keep HG4.out (r:=r) (fun b hb=>by have:=(HOW.out.1.lt b hb).1;omega)
         have R4:=hgk.1 _ _ (R3.out.below (blw _ _))
         have D4:=hgk.2 ((KX.out.2.2.moved M3.out).moved (Moved.of_below (blw _ _)))
         have M4:Moved r w w4:=by
          have m:=(KX.out.1.trans M3.out).trans (Moved.of_below (blw _ (.cells #[.string nm] 9)))
          exact ⟨HG4.out.os.trans m.os,HG4.out.tape.trans m.tape,HG4.out.output.trans m.output,Nat.le_trans m.size HG4.out.size,fun k hk hn=>(HG4.out.block k (Nat.lt_of_lt_of_le hk m.size) (fun e=>by have:=(HOW.out.1.lt k e.symm).1;omega)).trans (m.block k hk hn)⟩
         have T4:=RTr.app hr (by omega) HOW.out.1 HOW.out.2.1 HOW.out.2.2 M3.out (TS.keep (fun _ hk=>⟨⟨hk.1,hk.2⟩,rfl⟩) _ _ T3.out) HO4.out HG4.out HT4.out
         go_roundg g
         case measure=>omega
         case rel=>exact ⟨acc++[nm],tq2,by omega,by omega,by rw [List.length_append];simp;omega,vaside ⟨by rw [rowOf_snoc];exact T4,M4,R4,D4,G3.out,E3.out⟩⟩
theorem kindWord_1 (w:World):Calls Tryz.prog 240 #[.int .i64 1] w fun e w'=>e=.returned (.string ⟨#[116,121,112,101]⟩)∧w=w':=by
 go_enter Tryz.func240,Tryz.ntmps240
 go_wp2_with fail
 go_ret
 exact ⟨rfl,rfl⟩
theorem kindWord_2 (w:World):Calls Tryz.prog 240 #[.int .i64 2] w fun e w'=>e=.returned (.string ⟨#[105,110,116,101,114,102,97,99,101]⟩)∧w=w':=by
 go_enter Tryz.func240,Tryz.ntmps240
 go_wp2_with fail
 go_ret
 exact ⟨rfl,rfl⟩
theorem kindWord_3 (w:World):Calls Tryz.prog 240 #[.int .i64 3] w fun e w'=>e=.returned (.string ⟨#[117,110,105,111,110]⟩)∧w=w':=by
 go_enter Tryz.func240,Tryz.ntmps240
 go_wp2_with fail
 go_ret
 exact ⟨rfl,rfl⟩
theorem kindWord_4 (w:World):Calls Tryz.prog 240 #[.int .i64 4] w fun e w'=>e=.returned (.string ⟨#[101,110,117,109]⟩)∧w=w':=by
 go_enter Tryz.func240,Tryz.ntmps240
 go_wp2_with fail
 go_ret
 exact ⟨rfl,rfl⟩
theorem kindWord_5 (w:World):Calls Tryz.prog 240 #[.int .i64 5] w fun e w'=>e=.returned (.string ⟨#[105,110,112,117,116]⟩)∧w=w':=by
 go_enter Tryz.func240,Tryz.ntmps240
 go_wp2_with fail
 go_ret
 exact ⟨rfl,rfl⟩
def kList:Nat→List UInt8
 | 1=>[116,121,112,101]
 | 2=>[105,110,116,101,114,102,97,99,101]
 | 3=>[117,110,105,111,110]
 | 4=>[101,110,117,109]
 | 5=>[105,110,112,117,116]
 | _=>[]
theorem kindw_at {s:ByteArray} {k:Nat} (h1:1≤k) (h5:k≤5) (hn:∀ j,1≤j→j < k→(kList j == s.toList)=false) (h:(kList k == s.toList)=true):kindW s=k:=by
 have e:=eq_of_beq h
 unfold kindW
 rw [← e]
 have hk:k=1∨k=2∨k=3∨k=4∨k=5:=by omega
 rcases hk with rfl|rfl|rfl|rfl|rfl<;>decide +kernel
theorem kindw_none {s:ByteArray} (hn:∀ j,1≤j→j < 6→(kList j == s.toList)=false):kindW s=0:=by
 have sym:∀ l:List UInt8,(l == s.toList)=false→(s.toList == l)=false:=fun l h=>by
  cases hc:(s.toList == l) with
  | false=>rfl
  | true=>rw [eq_of_beq hc] at h;simp at h
 have h1:(s.toList == typeB.toList)=false:=by rw [show typeB.toList=kList 1 by decide +kernel];exact sym _ (hn 1 (by omega) (by omega))
 have h2:(s.toList == faceB.toList)=false:=by rw [show faceB.toList=kList 2 by decide +kernel];exact sym _ (hn 2 (by omega) (by omega))
 have h3:(s.toList == unionB.toList)=false:=by rw [show unionB.toList=kList 3 by decide +kernel];exact sym _ (hn 3 (by omega) (by omega))
 have h4:(s.toList == enumsB.toList)=false:=by rw [show enumsB.toList=kList 4 by decide +kernel];exact sym _ (hn 4 (by omega) (by omega))
 have h5:(s.toList == inputB.toList)=false:=by rw [show inputB.toList=kList 5 by decide +kernel];exact sym _ (hn 5 (by omega) (by omega))
 unfold kindW
 simp only [h1,h2,h3,h4,h5,Bool.false_eq_true,if_false]
theorem kindOf_any (s:ByteArray) (w:World):Calls Tryz.prog 221 #[.string s] w fun e w'=>if kindW s=0 then e=PanicE 2∧w=w' else e=.returned (.int .i64 (kindW s))∧w=w':=by
 suffices H:∀ Q:Ending→World→Prop,(∀ e w',(if kindW s=0 then e=PanicE 2∧w=w' else e=.returned (.int .i64 (kindW s))∧w=w')→Q e w')→Calls Tryz.prog 221 #[.string s] w Q from H _ (fun _ _ h=>h)
 intro Q hQ
 have HQ:=Hd hQ
 clear hQ
 go_enter Tryz.func221,Tryz.ntmps221
 go_wp2_with fail
 go_loopg [3] 6 (fun g v wx=>∃ k:Nat,v=.int .i64 (k:Int)∧1≤k∧k+g=7∧k≤6∧Aside (wx=w∧∀ j,1≤j→j < k→(kList j == s.toList)=false))
 case atStart=>exact ⟨1,rfl,Nat.le_refl _,rfl,by decide,vaside ⟨rfl,fun j h1 h2=>by omega⟩⟩
 case round =>
  obtain ⟨k,rfl,h1,hg,h6,HA⟩:=hrel
  obtain ⟨rfl,hn⟩:=HA.out
  have HN:=Hd hn
  clear HA hn
  cases gk with
  | zero=>omega
  | succ g =>
    have hk:k=1∨k=2∨k=3∨k=4∨k=5∨k=6:=by omega
    rcases hk with rfl|rfl|rfl|rfl|rfl|rfl
    · cases ht:([116,121,112,101] == s.toList) with
      | true =>
        have HK:=Hd (kindw_at (k:=1) (by decide) (by decide) HN.out ht)
        go_wp2_with fail
        refine (kindWord_1 _).mono ?_
        rintro e w1 ⟨rfl,rfl⟩
        go_wp2_with fail
        exact HQ.out _ _ (by rw [HK.out];exact ⟨rfl,rfl⟩)
      | false =>
        go_wp2_with fail
        refine (kindWord_1 _).mono ?_
        rintro e w1 ⟨rfl,rfl⟩
        go_wp2_with fail
        go_roundg g
        case measure=>omega
        case rel=>exact ⟨1+1,rfl,by omega,by omega,by omega,vaside ⟨rfl,fun j h1 h2=>by
         by_cases hj:j=1
         · subst hj;exact ht
         · exact HN.out j h1 (by omega)⟩⟩
    · cases ht:([105,110,116,101,114,102,97,99,101] == s.toList) with
      | true =>
        have HK:=Hd (kindw_at (k:=2) (by decide) (by decide) HN.out ht)
        go_wp2_with fail
        refine (kindWord_2 _).mono ?_
        rintro e w1 ⟨rfl,rfl⟩
        go_wp2_with fail
        exact HQ.out _ _ (by rw [HK.out];exact ⟨rfl,rfl⟩)
      | false =>
        go_wp2_with fail
        refine (kindWord_2 _).mono ?_
        rintro e w1 ⟨rfl,rfl⟩
        go_wp2_with fail
        go_roundg g
        case measure=>omega
        case rel=>exact ⟨2+1,rfl,by omega,by omega,by omega,vaside ⟨rfl,fun j h1 h2=>by
         by_cases hj:j=2
         · subst hj;exact ht
         · exact HN.out j h1 (by omega)⟩⟩
    · cases ht:([117,110,105,111,110] == s.toList) with
      | true =>
        have HK:=Hd (kindw_at (k:=3) (by decide) (by decide) HN.out ht)
        go_wp2_with fail
        refine (kindWord_3 _).mono ?_
        rintro e w1 ⟨rfl,rfl⟩
        go_wp2_with fail
        exact HQ.out _ _ (by rw [HK.out];exact ⟨rfl,rfl⟩)
      | false =>
        go_wp2_with fail
        refine (kindWord_3 _).mono ?_
        rintro e w1 ⟨rfl,rfl⟩
        go_wp2_with fail
        go_roundg g
        case measure=>omega
        case rel=>exact ⟨3+1,rfl,by omega,by omega,by omega,vaside ⟨rfl,fun j h1 h2=>by
         by_cases hj:j=3
         · subst hj;exact ht
         · exact HN.out j h1 (by omega)⟩⟩
    · cases ht:([101,110,117,109] == s.toList) with
      | true =>
        have HK:=Hd (kindw_at (k:=4) (by decide) (by decide) HN.out ht)
        go_wp2_with fail
        refine (kindWord_4 _).mono ?_
        rintro e w1 ⟨rfl,rfl⟩
        go_wp2_with fail
        exact HQ.out _ _ (by rw [HK.out];exact ⟨rfl,rfl⟩)
      | false =>
        go_wp2_with fail
        refine (kindWord_4 _).mono ?_
        rintro e w1 ⟨rfl,rfl⟩
        go_wp2_with fail
        go_roundg g
        case measure=>omega
        case rel=>exact ⟨4+1,rfl,by omega,by omega,by omega,vaside ⟨rfl,fun j h1 h2=>by
         by_cases hj:j=4
         · subst hj;exact ht
         · exact HN.out j h1 (by omega)⟩⟩
    · cases ht:([105,110,112,117,116] == s.toList) with
      | true =>
        have HK:=Hd (kindw_at (k:=5) (by decide) (by decide) HN.out ht)
        go_wp2_with fail
        refine (kindWord_5 _).mono ?_
        rintro e w1 ⟨rfl,rfl⟩
        go_wp2_with fail
        exact HQ.out _ _ (by rw [HK.out];exact ⟨rfl,rfl⟩)
      | false =>
        go_wp2_with fail
        refine (kindWord_5 _).mono ?_
        rintro e w1 ⟨rfl,rfl⟩
        go_wp2_with fail
        go_roundg g
        case measure=>omega
        case rel=>exact ⟨5+1,rfl,by omega,by omega,by omega,vaside ⟨rfl,fun j h1 h2=>by
         by_cases hj:j=5
         · subst hj;exact ht
         · exact HN.out j h1 (by omega)⟩⟩
    · have HK:=Hd (kindw_none HN.out)
      go_wp2_with fail
      exact ⟨rfl,HQ.out _ _ (by rw [HK.out,if_pos rfl];exact ⟨rfl,rfl⟩)⟩
end Go.Proofs.YtkacnnhdfkpenaaGreatDoor
