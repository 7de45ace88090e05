/- schema's search.ring. (gen_ring.py wrote it.) -/
import Derived.Test.YtaekdfcpbepepaaGreatDoorQb42
set_option maxRecDepth 100000
set_option maxHeartbeats 16000000
namespace Go.Proofs.YtaekdfcpbepepaaGreatDoor
open Go.RowKit
theorem SR.top {base:Nat} {W:World} {V:Value} {w:List ByteArray} {a:ByteArray} (h:SR base W V (a :: w).reverse):∃ g cp,V=.slice (some ⟨g,0,none⟩) (w.length+1) cp∧w.length+1≤cp∧base≤g∧g < W.heap.size∧W.cell? ⟨g,w.length,none⟩=some (.string a)∧SR base W (.slice (some ⟨g,0,none⟩) w.length cp) w.reverse:=by
 unfold SR at h ⊢
 rw [List.reverse_cons,List.length_append,List.length_reverse,List.length_singleton,List.map_append] at h
 obtain ⟨g,cp,rfl,hb,hg⟩:=World.ownsRow.form h (by omega)
 have hcp:w.length+1≤cp:=by
   rcases h.2 with ⟨e,_⟩|⟨g',cap,cur,e,_,_,hnc,_⟩
   · cases e
   · simp only [Value.slice.injEq,true_and] at e
     obtain ⟨_,rfl⟩:=e
     exact hnc
 refine ⟨g,cp,rfl,hcp,hb,hg,?_,?_⟩
 · have:=World.ownsRow.cells h (g:=g) rfl w.length (.string a) (by simp)
   rw [add_at] at this
   simpa using this
 · rw [List.length_reverse]
   exact ownsRow_pop (by simp) h
theorem SR.form {base:Nat} {W:World} {V:Value} {xs:List ByteArray} (h:SR base W V xs):∃ A c,V=.slice A xs.length c:=by
 obtain ⟨A,c,e,_⟩:=h.strs
 exact ⟨A,c,e⟩
theorem len_sum {α:Type} {K:List α} (L:α→List α) {a:α} (h:a ∈ K):(L a).length≤(K.map fun a=>(L a).length).sum:=by
 induction K with
 | nil=>cases h
 | cons b K ih =>
   rw [List.map_cons,List.sum_cons]
   rcases List.mem_cons.1 h with rfl|h
   · omega
   · have:=ih h;omega
theorem scan_all {α:Type} {en:α→Bool} : ∀ {l:List α},(∀ x,x ∈ l→en x=true)→scanR en l=none
 | [],_=>rfl
 | x :: t,h=>by
   unfold scanR
   rw [if_pos (h x (List.mem_cons_self ..))]
   exact scan_all (fun y hy=>h y (List.mem_cons_of_mem _ hy))
theorem scan_at {α:Type} {en:α→Bool} : ∀ {l:List α} {k:Nat} {x:α},(∀ j y,j < k→l[j]? = some y→en y=true)→l[k]? = some x→en x=false→scanR en l=some (x,l.drop (k+1))
 | [],k,x,_,h,_=>by simp at h
 | y :: t,0,x,_,h,he=>by
   obtain rfl:y=x:=by simpa using h
   unfold scanR
   rw [if_neg (by rw [he];decide)]
   rfl
 | y :: t,k+1,x,ha,h,he=>by
   unfold scanR
   rw [if_pos (ha 0 y (Nat.succ_pos _) rfl)]
   exact scan_at (fun j z hj hz=>ha (j+1) z (by omega) (by simpa using hz)) (by simpa using h) he
theorem row_on {base:Nat} {W W':World} {g n c:Nat} {xs:List ByteArray} (h:SR base W (.slice (some ⟨g,0,none⟩) n c) xs) (hb:W'.heap[g]? = W.heap[g]?):SR base W' (.slice (some ⟨g,0,none⟩) n c) xs:=own_one h (fun b e=>by
 have e:g=b:=by simpa [Value.ownBlock] using e
 subst e
 exact hb)
theorem ring_any (lb gb eb:Nat) (K:List ByteArray) (L:ByteArray→List ByteArray) (bg en:ByteArray→Bool) (nm:ByteArray) (n NB N:Nat) (W:World) (hM:SrchM N W lb gb eb n L bg en) (hK:∀ a,L a ≠ []→a ∈ K) (hnm:nm.size≤maxLen) (hN:n+measR K L [nm]≤NB) (hNB:NB≤1099511627776) :
  Calls Tryz.prog 114 #[.agg #[.map (some lb),.map (some gb),.map (some eb)],.string nm] W fun e W'=>∃ r L' bg' en' n',e=.returned (.bool r)∧RingS L bg en [nm] r L' bg' en'∧SrchM N W' lb gb eb n' L' bg' en'∧MoZ (X3 lb gb eb) W W'∧n'+2*sumR K L'≤NB∧∀ a,L' a ≠ []→a ∈ K:=by
 obtain ⟨i0,hi,hz0,hz1,hz2⟩:=info_parts1 info_txt
 have HM:=Hd hM
 have HK:=Hd hK
 have HN:=Hd hN
 have hX:∀ b,X3 lb gb eb b→b < W.heap.size:=fun b hb=>by
  rcases hb with rfl|rfl|rfl
  · exact hM.left.lt
  · exact hM.begun.lt
  · exact hM.ended.lt
 have HX:=Hd hX
 have LEW:=Hd hM.le
 have bn:=dbelow_new W (.cells #[.map (some lb),.map (some gb),.map (some eb)] 125)
 have Y1:=Hd (heap_alloc_new W (.cells #[.map (some lb),.map (some gb),.map (some eb)] 125))
 have M1:=Hd (hM.on bn)
 have B1:=Hd bn
 have Z1:Hid ((W.alloc (.cells #[.map (some lb),.map (some gb),.map (some eb)] 125)).heap.size=W.heap.size+1):=Hd (by simp)
 clear hM hK hN hX bn
 go_enter Tryz.func114,Tryz.ntmps114
 go_upto_region 1 with fail
 generalize W.alloc (.cells #[.map (some lb),.map (some gb),.map (some eb)] 125)=w1 at Y1 M1 B1 Z1 ⊢
 have bn:=dbelow_new w1 (.cells #[.string nm] 9)
 have R2:Hid (SR (W.heap.size+1) (w1.alloc (.cells #[.string nm] 9)) (.slice (some ⟨w1.heap.size,0,none⟩) 1 1) [nm].reverse):=Hd (by
  refine ⟨rfl,.inr ⟨w1.heap.size,1,#[.string nm],rfl,by rw [Z1.out];exact Nat.le_refl _,heap_alloc_new _ _,Nat.le_refl _,by decide,by simp,by simp⟩⟩)
 go_wp2_with fail
 have B2:=Hd (B1.out.trans (bn.mono B1.out.size))
 have M2:=Hd (M1.out.on bn)
 have Y2:=Hd ((bn.block _ (Array.getElem?_eq_some_iff.1 Y1.out).1).trans Y1.out)
 go_step3
 go_wp2_with fail
 go_step3
 go_wp2_with fail
 generalize w1.alloc (.cells #[.string nm] 9)=w2 at R2 B2 M2 Y2 ⊢
 generalize w1.heap.size=gw at R2 ⊢
 clear bn M1 B1 Y1 Z1
 go_loopg [5] (measR K L [nm]) (fun g v wx=>∃ n1 L1 bg1 en1 way,Aside (SR (W.heap.size+1) wx v way.reverse∧SrchM N wx lb gb eb n1 L1 bg1 en1∧MoZ (X3 lb gb eb) W wx∧wx.heap[W.heap.size]? = some (.cells #[.map (some lb),.map (some gb),.map (some eb)] 125 (0,0))∧(∀ r L' b' e',RingS L1 bg1 en1 way r L' b' e'→RingS L bg en [nm] r L' b' e')∧measR K L1 way≤g∧n1+measR K L1 way≤NB∧(∀ a,L1 a ≠ []→a ∈ K)∧(∀ s,s ∈ way→s.size≤maxLen)))
 case atStart=>exact ⟨n,L,bg,en,[nm],Blk.Aside.intro ⟨R2.out,M2.out,MoZ.of_below B2.out,Y2.out,fun _ _ _ _ h=>h,Nat.le_refl _,HN.out,HK.out,fun s hs=>by rw [List.mem_singleton] at hs;subst hs;exact hnm⟩⟩
 case round =>
  obtain ⟨n1,L1,bg1,en1,way,hx⟩:=hrel
  obtain ⟨h1,h2,h3,h4,h5,h6,h7,h8,h9⟩:=hx.out
  have HR:=Hd h1
  have HS:=Hd h2
  have HO:=Hd h3
  have HX0:=Hd h4
  have HG:=Hd h5
  have HMS:=Hd h6
  have HNB:=Hd h7
  have HKK:=Hd h8
  have HWS:=Hd h9
  clear hx h1 h2 h3 h4 h5 h6 h7 h8 h9 R2 B2 M2 Y2
  cases way with
  | nil =>
    obtain ⟨A,c,rfl⟩:=HR.out.form
    rw [List.reverse_nil,List.length_nil]
    go_wp2_with fail
    rw [Exit.noGoto_ret]
    go_ret
    have hnb:=HNB.out
    rw [meas_eq] at hnb
    exact ⟨false,L1,bg1,en1,n1,rfl,HG.out _ _ _ _ RingS.done,HS.out,HO.out,Nat.le_trans (Nat.le_add_right _ _) (by rw [← Nat.add_assoc] at hnb;exact hnb),HKK.out⟩
  | cons a way =>
    obtain ⟨g,cp,rfl,hcp,hbg,hgl,hcell,hpop⟩:=HR.out.top
    have HPOP:=Hd hpop
    have has:=HWS.out a (List.mem_cons_self ..)
    have hwl:way.length≤1099511627776:=by have h:=HNB.out;rw [meas_eq,List.length_cons] at h;omega
    have hsub:((way.length+1:Nat):Int) - 1=(way.length:Int):=by omega
    have hwi:(way.length:Int) < ((way.length+1:Nat):Int):=by omega
    obtain ⟨D2,mm2,hgm,hd2,hs2⟩:=HS.out.begun
    have hn1:n1 < maxLen:=by have h:=HNB.out;unfold maxLen;omega
    clear hpop
    obtain ⟨z0,z1,z2⟩:=three_cells HX0.out
    go_upto_region 5 with (at_mapUpdate;refine wpList_mapUpdate_own _ rfl _ _ _ 123 rfl 9 4 (Maps.string_keyed Tryz.underlying9) Tryz.underlying123 R1 gb n1 D2 rfl hgm hn1 _ _ _ rfl rfl (WideMaps.keyOf_string_mk Tryz.underlying9 has) (.held (.bool true)) [] rfl ?_;intro w3 hm3 hg3)
    have hneq:=HS.out.ne
    have BG3:=Hd (SetM.put hd2 hs2 a hm3)
    have E3:=Hd (HS.out.ended.keep (hg3.block _ HS.out.ended.lt (fun e=>hneq.2.1 (by injection e with e;exact e.symm))))
    have L3:=Hd (HS.out.left.keep (hg3.block _ HS.out.left.lt (fun e=>hneq.1 (by injection e))) (.of_grown hg3 HS.out.le (.inl (.inr (.inl rfl)))))
    have LE3:=Hd (Nat.le_trans HS.out.le hg3.size)
    have O3:=Hd (HO.out.trans (moz_grown hg3 (.inr (.inl rfl))))
    have hxx:=HX.out
    have hgX : ¬ X3 lb gb eb g:=fun hb=>by have:=hxx g hb;omega
    have hxb : ¬ X3 lb gb eb W.heap.size:=fun hb=>by have:=hxx _ hb;omega
    have P3:=Hd (row_on HPOP.out (hg3.block g hgl (fun e=>hgX (.inr (.inl (by injection e))))))
    have C3:=Hd ((World.cell?_of_block (a:=⟨g,way.length,none⟩) (hg3.block g hgl (fun e=>hgX (.inr (.inl (by injection e)))))).trans hcell)
    have R3:=Hd (row_on HR.out (hg3.block g hgl (fun e=>hgX (.inr (.inl (by injection e))))))
    have X03:=Hd ((hg3.block _ (Array.getElem?_eq_some_iff.1 HX0.out).1 (fun e=>hxb (.inr (.inl (by injection e))))).trans HX0.out)
    have hg3l:g < w3.heap.size:=Nat.lt_of_lt_of_le hgl hg3.size
    clear hm3 hg3 hgm hd2 hs2 z0 z1 z2 hcell HR HPOP HX0 HS HO
    obtain ⟨z0,z1,z2⟩:=three_cells X03.out
    obtain ⟨D1,m1,hlm,hd1,hh1⟩:=L3.out
    obtain ⟨Al,cl,okl,hlook,hcl,hel⟩:=held_look (hh1 a)
    have hzb:∀ w:World,(zeroValue 4).run Tryz.prog w=.ok (.bool false) w:=fun w=>by rfl
    have hzs:∀ w:World,(zeroValue 32).run Tryz.prog w=.ok (.slice none 0 0) w:=fun w=>by rfl
    have hll:(L1 a).length≤1099511627776:=by
     have h:=HNB.out
     rw [meas_eq] at h
     by_cases e:L1 a=[]
     · rw [e];simp
     · have:=len_sum L1 (HKK.out a e)
       unfold sumR at h
       omega
    go_wp2_with (at_lookup;refine wpList_lookV1 rfl _ _ 122 rfl 9 32 Tryz.underlying9 Tryz.underlying122 (hzs _) lb n1 D1 m1 rfl hlm hd1 a rfl has _ _ hlook ?_)
    have HL1:=Hd hlm
    have HD1:=Hd hd1
    have HH1:=Hd hh1
    have HLK:=Hd hlook
    have HEL:=Hd hel
    obtain ⟨D4,m4,hem,hd4,hl4⟩:=E3.out.look
    obtain ⟨D5,m5,hbm,hd5,hl5⟩:=BG3.out.look
    have HE4:=Hd hem
    have HE5:=Hd hbm
    have HL4:=Hd hl4
    have HL5:=Hd hl5
    clear hlm hd1 hh1 hlook hel hem hbm hl4 hl5
    go_loopg [5,28] (L1 a).length (fun g2 v i wx=>∃ k:Nat,k+g2=(L1 a).length∧i=.int .i64 k∧v=.slice (some ⟨g,0,none⟩) (way.length+1) cp∧Aside (wx=w3∧∀ j x,j < k→(L1 a)[j]? = some x→en1 x=true))
    case atStart=>exact ⟨0,by omega,rfl,rfl,Blk.Aside.intro ⟨rfl,fun j x hj=>absurd hj (by omega)⟩⟩
    case round =>
     obtain ⟨k,hk,rfl,rfl,hx⟩:=hrel
     obtain ⟨he,hall⟩:=hx.out
     subst he
     have HAL:=Hd hall
     clear hx hall
     cases gk with
     | zero =>
       obtain rfl:k=(L1 a).length:=by omega
       have HSC:=Hd (scan_all (en:=en1) (l:=L1 a) (fun x hx=>by
         obtain ⟨j,hj⟩:=List.getElem?_of_mem hx
         exact HAL.out j x (List.getElem?_eq_some_iff.1 hj).1 hj))
       obtain ⟨D6,m6,hem,hd6,hs6⟩:=E3.out
       go_upto_region 15 with (at_mapUpdate;refine wpList_mapUpdate_own _ rfl _ _ _ 123 rfl 9 4 (Maps.string_keyed Tryz.underlying9) Tryz.underlying123 R1 eb n1 D6 rfl hem hn1 _ _ _ rfl rfl (WideMaps.keyOf_string_mk Tryz.underlying9 has) (.held (.bool true)) [] rfl ?_;intro w6 hm6 hg6)
       have E6:=Hd (SetM.put hd6 hs6 a hm6)
       have BG6:=Hd (BG3.out.keep (hg6.block _ BG3.out.lt (fun e=>hneq.2.1 (by injection e))))
       have L6:=Hd (L3.out.keep (hg6.block _ L3.out.lt (fun e=>hneq.2.2 (by injection e))) (.of_grown hg6 LE3.out (.inl (.inr (.inr rfl)))))
       have LE6:=Hd (Nat.le_trans LE3.out hg6.size)
       have O6:=Hd (O3.out.trans (moz_grown hg6 (.inr (.inr rfl))))
       have P6:=Hd (row_on P3.out (hg6.block g hg3l (fun e=>hgX (.inr (.inr (by injection e))))))
       have X06:=Hd ((hg6.block _ (Array.getElem?_eq_some_iff.1 X03.out).1 (fun e=>hxb (.inr (.inr (by injection e))))).trans X03.out)
       have hcpp:(way.length:Int)≤(cp:Int):=by omega
       clear hm6 hg6 hem hd6 hs6 z0 z1 z2
       go_wp2_with fail
       go_roundg (measR K L1 way)
       case measure=>have h:=HMS.out;rw [meas_eq,List.length_cons] at h;rw [meas_eq];omega
       case rel =>
         refine ⟨n1+1,L1,insR bg1 a,insR en1 a,way,Blk.Aside.intro ⟨?_,⟨L6.out.le (Nat.le_succ _),BG6.out,E6.out,hneq,LE6.out⟩,O6.out,X06.out,fun r L' b' e' h=>HG.out r L' b' e' (RingS.pop HSC.out h),Nat.le_refl _,?_,HKK.out,fun s hs=>HWS.out s (List.mem_cons_of_mem _ hs)⟩⟩
         · exact P6.out
         · have h:=HNB.out;rw [meas_eq,List.length_cons] at h;rw [meas_eq];omega
     | succ g2 =>
       have hkl:k < (L1 a).length:=by omega
       have hkl':(k:Int) < ((L1 a).length:Int):=by omega
       obtain ⟨x,hx⟩:∃ x,(L1 a)[k]? = some x:=⟨_,List.getElem?_eq_getElem hkl⟩
       obtain ⟨b,o,rfl,hb1,hb2,hc,hxs⟩:=HEL.out k x hx
       cases he:en1 x with
       | true =>
         have hl:=HL4.out x
         rw [he] at hl
         have hem:=HE4.out
         go_wp2_with (at_lookup;refine wpList_lookV1 rfl _ _ 123 rfl 9 4 Tryz.underlying9 Tryz.underlying123 (hzb _) eb n1 D4 m4 rfl hem hd4 x rfl hxs _ _ hl ?_)
         go_roundg g2
         case measure=>omega
         case rel=>exact ⟨k+1,by omega,by go_num,rfl,Blk.Aside.intro ⟨rfl,fun j y hj hy=>by
           rcases Nat.lt_or_ge j k with h|h
           · exact HAL.out j y h hy
           · obtain rfl:j=k:=by omega
             rw [hx] at hy
             obtain rfl:=Option.some.inj hy
             exact he⟩⟩
       | false =>
         have HSC:=Hd (scan_at (en:=en1) HAL.out hx he)
         have hl:=HL4.out x
         rw [he] at hl
         have hem:=HE4.out
         go_upto_region 9 with (at_lookup;refine wpList_lookV1 rfl _ _ 123 rfl 9 4 Tryz.underlying9 Tryz.underlying123 (hzb _) eb n1 D4 m4 rfl hem hd4 x rfl hxs _ _ hl ?_)
         clear hl hem
         have hl:=HL5.out x
         have hbm:=HE5.out
         cases hin:insR bg1 a x with
         | true =>
           rw [hin] at hl
           go_wp2_with (at_lookup;refine wpList_lookV1 rfl _ _ 123 rfl 9 4 Tryz.underlying9 Tryz.underlying123 (hzb _) gb (n1+1) D5 m5 rfl hbm hd5 x rfl hxs _ _ hl ?_)
           rw [Exit.noGoto_ret]
           go_ret
           have hnb:=HNB.out
           rw [meas_eq,List.length_cons] at hnb
           exact ⟨true,L1,insR bg1 a,en1,n1+1,rfl,HG.out _ _ _ _ (RingS.hit HSC.out hin),⟨L3.out.le (Nat.le_succ _),BG3.out,E3.out.le (Nat.le_succ _),hneq,LE3.out⟩,O3.out,by omega,HKK.out⟩
         | false =>
           rw [hin] at hl
           go_upto_region 11 with (at_lookup;refine wpList_lookV1 rfl _ _ 123 rfl 9 4 Tryz.underlying9 Tryz.underlying123 (hzb _) gb (n1+1) D5 m5 rfl hbm hd5 x rfl hxs _ _ hl ?_)
           clear hl hbm
           have hlm:=HL1.out
           obtain ⟨vv,ps,hrun,hvv⟩:=World.ownsMap.lookup hlm.drew (Maps.string_keyed Tryz.underlying9) Tryz.underlying122 (hzs _) (zd:=.held (.slice none 0 0)) (zp:=[]) rfl (WideMaps.keyOf_string_mk Tryz.underlying9 has)
           obtain ⟨rfl,_⟩:=look_v HD1.out HLK.out hvv
           clear hvv hlm
           obtain ⟨E,hE⟩:∃ E:Int,(k:Int)+1=E:=⟨_,rfl⟩
           have hw:IntKind.i64.wrap ((k:Int)+1)=E:=by rw [← hE];simp only [IntKind.wrap_i64];omega
           have hE0:(0:Int)≤E:=by omega
           have hE1:E≤((L1 a).length:Int):=by omega
           have hE2:E.toNat=k+1:=by omega
           have HE:=Hd hE
           clear hE
           by_cases hcs:cl=k+1
           · have hup:=World.ownsMap.update (HL1.out.drew) (Maps.string_keyed Tryz.underlying9) Tryz.underlying122 hn1 (key:=.string a) (val:=.slice (some ⟨b,o,none⟩) ((L1 a).length - (k+1)) 0) (WideMaps.keyOf_string_mk Tryz.underlying9 has) (d:=.held (.slice (some ⟨b,o,none⟩) ((L1 a).length - (k+1)) 0)) (ps:=[]) rfl
             obtain ⟨w7,hrun7,hm7,hg7⟩:=hup
             have HV7:Hid (HeldRow (X3 lb gb eb) N w7 (some (.slice (some ⟨b,o,none⟩) ((L1 a).length - (k+1)) 0)) ((L1 a).drop (k+1))):=Hd (by
              have hh:=HeldRow.drop (X:=X3 lb gb eb) (N:=N) (W:=w7) rfl hcl hkl (fun j y hy=>by
              obtain ⟨b',o',q1,q2,q3,q4,q5⟩:=HEL.out j y hy
              exact ⟨b',o',q1,q2,q3,(World.cell?_of_block (a:=⟨b',_,none⟩) (hg7.block b' (Nat.lt_of_lt_of_le q2 LE3.out) (fun e=>q3 (.inl (by injection e))))).trans q4,q5⟩) (some ⟨b,o,none⟩) (fun h=>absurd h (by omega))
              rw [show cl - (k+1)=0 by omega] at hh
              exact hh)
             have L7:=Hd (LeftM.put HD1.out HH1.out (.of_grown (W:=wr) ⟨hg7.os,hg7.tape,hg7.output,hg7.size,hg7.block⟩ LE3.out (.inl (.inl rfl))) a _ _ HV7.out hm7)
             have HG7:Hid (wr.grownBy w7 (some lb)):=Hd ⟨hg7.os,hg7.tape,hg7.output,hg7.size,hg7.block⟩
             clear hm7 hg7
             have BG7:=Hd (BG3.out.keep (HG7.out.block _ BG3.out.lt (fun e=>hneq.1 (by injection e with e;exact e.symm))))
             have E7:=Hd (E3.out.keep (HG7.out.block _ E3.out.lt (fun e=>hneq.2.2 (by injection e with e;exact e.symm))))
             have O7:=Hd (O3.out.trans (moz_grown HG7.out (.inl rfl)))
             have R7:=Hd (row_on R3.out (HG7.out.block g hg3l (fun e=>hgX (.inl (by injection e)))))
             have X07:=Hd ((HG7.out.block _ (Array.getElem?_eq_some_iff.1 X03.out).1 (fun e=>hxb (.inl (by injection e)))).trans X03.out)
             go_region
             all_goals clear hrun7
             all_goals
              have hR8:(w7.alloc (.cells #[.string x] 9)).ownsRow (W.heap.size+1) 9 1 (.slice (some ⟨g,0,none⟩) (way.length+1) cp) (way.length+1) ((a :: way).reverse.map .string):=by
               have h:=SR.low R7.out (dbelow_new w7 (.cells #[.string x] 9))
               unfold SR at h
               rw [List.length_reverse,List.length_cons] at h
               exact h
              have bn8:=dbelow_new w7 (.cells #[.string x] 9)
              have s7:=HG7.out.size
              have s3:=O3.out.size
              go_wp2_with (at_builtin;refine wpList_append_lies _ rfl _ _ 32 rfl (W.heap.size+1) 9 i0 (.string ⟨#[]⟩) 1 16 Tryz.underlying32 hi hz0 hz1 hz2 rfl (by decide) _ (way.length+1) ((a :: way).reverse.map .string) rfl hR8 _ 1 1 [.string x] rfl rfl (fun j u hj=>World.news_of_block (heap_alloc_new _ _) j u hj) (by intro y hy;simp at hy;rcases hy with rfl<;>rfl) (by decide) (by unfold maxLen;omega) (by omega) (by simp;omega) _ rfl ?_;intro gg cap2 w9 hown9 hg9 hat9 hlt9)
              have hbl:W.heap.size+1≤w7.heap.size:=Nat.le_trans hbg (Nat.le_trans (Nat.le_of_lt hg3l) s7)
              have hal:w7.heap.size≤(w7.alloc (.cells #[.string x] 9)).heap.size:=bn8.size
              have HK9:Hid (∀ b,b < w7.heap.size→b ≠ g→w9.heap[b]? = w7.heap[b]?):=Hd (fun b hb hn=>(hg9.block b (Nat.lt_of_lt_of_le hb hal) (fun e=>hn (by injection e))).trans (bn8.block b hb))
              have hgN:N≤g:=Nat.le_trans LEW.out (Nat.le_trans (Nat.le_succ _) hbg)
              have LE7:N≤w7.heap.size:=Nat.le_trans LE3.out s7
              have LE9:N≤w9.heap.size:=Nat.le_trans LE7 (Nat.le_trans hal hg9.size)
              have hmx:∀ b,b < w7.heap.size→X3 lb gb eb b→b ≠ g:=fun b _ hb e=>hgX (e ▸ hb)
              have L9:=Hd (L7.out.keep (HK9.out lb L7.out.lt (hmx lb L7.out.lt (.inl rfl))) (fun b hb _=>HK9.out b (Nat.lt_of_lt_of_le hb LE7) (fun e=>by subst e;exact Nat.lt_irrefl _ (Nat.lt_of_lt_of_le hb hgN))))
              have BG9:=Hd (BG7.out.keep (HK9.out gb BG7.out.lt (hmx gb BG7.out.lt (.inr (.inl rfl)))))
              have E9:=Hd (E7.out.keep (HK9.out eb E7.out.lt (hmx eb E7.out.lt (.inr (.inr rfl)))))
              have O9:Hid (MoZ (X3 lb gb eb) W w9):=Hd (by
               have h:=O7.out
               exact ⟨hg9.os.trans (bn8.os.trans h.os),hg9.tape.trans (bn8.tape.trans h.tape),hg9.output.trans (bn8.output.trans h.output),Nat.le_trans h.size (Nat.le_trans hal hg9.size),fun b hb hn=>(HK9.out b (Nat.lt_of_lt_of_le hb h.size) (fun e=>by subst e;exact Nat.lt_irrefl _ (Nat.lt_of_lt_of_le (Nat.lt_succ_of_lt hb) hbg))).trans (h.block b hb hn)⟩)
              have X09:=Hd ((HK9.out _ (Array.getElem?_eq_some_iff.1 X07.out).1 (fun e=>by rw [← e] at hbg;exact Nat.lt_irrefl _ hbg)).trans X07.out)
              have HO9:=Hd hown9
              have HMP:=Hd (meas_push (K:=K) (L:=L1) (x:=x) (w:=way) (HKK.out a (fun e=>by rw [e] at hx;simp at hx)) (scan_some HSC.out).2.2.2.2)
              clear hown9 hat9 hg9
              go_roundg (measR K (updR L1 a ((L1 a).drop (k+1))) (x :: a :: way))
              case measure=>exact Nat.lt_of_lt_of_le HMP.out HMS.out
              case rel =>
               refine ⟨n1+1,updR L1 a ((L1 a).drop (k+1)),insR bg1 a,en1,x :: a :: way,Blk.Aside.intro ⟨?_,⟨L9.out,BG9.out,E9.out.le (Nat.le_succ _),hneq,LE9⟩,O9.out,X09.out,fun r L' b' e' h=>HG.out r L' b' e' (RingS.push HSC.out hin h),Nat.le_refl _,?_,?_,?_⟩⟩
               · unfold SR
                 rw [List.reverse_cons,List.length_append,List.map_append,List.length_reverse,List.length_cons]
                 exact HO9.out
               · have h1:=HMP.out
                 have h2:=HNB.out
                 omega
               · intro b hb
                 by_cases e:b=a
                 · subst e;exact HKK.out b (fun e=>by rw [e] at hx;simp at hx)
                 · unfold updR at hb;rw [if_neg e] at hb;exact HKK.out b hb
               · intro s hs
                 rcases List.mem_cons.1 hs with rfl|hs
                 · exact hxs
                 · exact HWS.out s hs
           · have hup:=World.ownsMap.update (HL1.out.drew) (Maps.string_keyed Tryz.underlying9) Tryz.underlying122 hn1 (key:=.string a) (val:=.slice (some ⟨b,o+(k+1),none⟩) ((L1 a).length - (k+1)) (cl - (k+1))) (WideMaps.keyOf_string_mk Tryz.underlying9 has) (d:=.held (.slice (some ⟨b,o+(k+1),none⟩) ((L1 a).length - (k+1)) (cl - (k+1)))) (ps:=[]) rfl
             obtain ⟨w7,hrun7,hm7,hg7⟩:=hup
             have HV7:=Hd (HeldRow.drop (X:=X3 lb gb eb) (N:=N) (W:=w7) rfl hcl hkl (fun j y hy=>by
              obtain ⟨b',o',q1,q2,q3,q4,q5⟩:=HEL.out j y hy
              exact ⟨b',o',q1,q2,q3,(World.cell?_of_block (a:=⟨b',_,none⟩) (hg7.block b' (Nat.lt_of_lt_of_le q2 LE3.out) (fun e=>q3 (.inl (by injection e))))).trans q4,q5⟩) (some ⟨b,o+(k+1),none⟩) (fun h=>rfl))
             have L7:=Hd (LeftM.put HD1.out HH1.out (.of_grown (W:=wr) ⟨hg7.os,hg7.tape,hg7.output,hg7.size,hg7.block⟩ LE3.out (.inl (.inl rfl))) a _ _ HV7.out hm7)
             have HG7:Hid (wr.grownBy w7 (some lb)):=Hd ⟨hg7.os,hg7.tape,hg7.output,hg7.size,hg7.block⟩
             clear hm7 hg7
             have BG7:=Hd (BG3.out.keep (HG7.out.block _ BG3.out.lt (fun e=>hneq.1 (by injection e with e;exact e.symm))))
             have E7:=Hd (E3.out.keep (HG7.out.block _ E3.out.lt (fun e=>hneq.2.2 (by injection e with e;exact e.symm))))
             have O7:=Hd (O3.out.trans (moz_grown HG7.out (.inl rfl)))
             have R7:=Hd (row_on R3.out (HG7.out.block g hg3l (fun e=>hgX (.inl (by injection e)))))
             have X07:=Hd ((HG7.out.block _ (Array.getElem?_eq_some_iff.1 X03.out).1 (fun e=>hxb (.inl (by injection e)))).trans X03.out)
             go_region
             all_goals clear hrun7
             all_goals
              have hR8:(w7.alloc (.cells #[.string x] 9)).ownsRow (W.heap.size+1) 9 1 (.slice (some ⟨g,0,none⟩) (way.length+1) cp) (way.length+1) ((a :: way).reverse.map .string):=by
               have h:=SR.low R7.out (dbelow_new w7 (.cells #[.string x] 9))
               unfold SR at h
               rw [List.length_reverse,List.length_cons] at h
               exact h
              have bn8:=dbelow_new w7 (.cells #[.string x] 9)
              have s7:=HG7.out.size
              have s3:=O3.out.size
              go_wp2_with (at_builtin;refine wpList_append_lies _ rfl _ _ 32 rfl (W.heap.size+1) 9 i0 (.string ⟨#[]⟩) 1 16 Tryz.underlying32 hi hz0 hz1 hz2 rfl (by decide) _ (way.length+1) ((a :: way).reverse.map .string) rfl hR8 _ 1 1 [.string x] rfl rfl (fun j u hj=>World.news_of_block (heap_alloc_new _ _) j u hj) (by intro y hy;simp at hy;rcases hy with rfl<;>rfl) (by decide) (by unfold maxLen;omega) (by omega) (by simp;omega) _ rfl ?_;intro gg cap2 w9 hown9 hg9 hat9 hlt9)
              have hbl:W.heap.size+1≤w7.heap.size:=Nat.le_trans hbg (Nat.le_trans (Nat.le_of_lt hg3l) s7)
              have hal:w7.heap.size≤(w7.alloc (.cells #[.string x] 9)).heap.size:=bn8.size
              have HK9:Hid (∀ b,b < w7.heap.size→b ≠ g→w9.heap[b]? = w7.heap[b]?):=Hd (fun b hb hn=>(hg9.block b (Nat.lt_of_lt_of_le hb hal) (fun e=>hn (by injection e))).trans (bn8.block b hb))
              have hgN:N≤g:=Nat.le_trans LEW.out (Nat.le_trans (Nat.le_succ _) hbg)
              have LE7:N≤w7.heap.size:=Nat.le_trans LE3.out s7
              have LE9:N≤w9.heap.size:=Nat.le_trans LE7 (Nat.le_trans hal hg9.size)
              have hmx:∀ b,b < w7.heap.size→X3 lb gb eb b→b ≠ g:=fun b _ hb e=>hgX (e ▸ hb)
              have L9:=Hd (L7.out.keep (HK9.out lb L7.out.lt (hmx lb L7.out.lt (.inl rfl))) (fun b hb _=>HK9.out b (Nat.lt_of_lt_of_le hb LE7) (fun e=>by subst e;exact Nat.lt_irrefl _ (Nat.lt_of_lt_of_le hb hgN))))
              have BG9:=Hd (BG7.out.keep (HK9.out gb BG7.out.lt (hmx gb BG7.out.lt (.inr (.inl rfl)))))
              have E9:=Hd (E7.out.keep (HK9.out eb E7.out.lt (hmx eb E7.out.lt (.inr (.inr rfl)))))
              have O9:Hid (MoZ (X3 lb gb eb) W w9):=Hd (by
               have h:=O7.out
               exact ⟨hg9.os.trans (bn8.os.trans h.os),hg9.tape.trans (bn8.tape.trans h.tape),hg9.output.trans (bn8.output.trans h.output),Nat.le_trans h.size (Nat.le_trans hal hg9.size),fun b hb hn=>(HK9.out b (Nat.lt_of_lt_of_le hb h.size) (fun e=>by subst e;exact Nat.lt_irrefl _ (Nat.lt_of_lt_of_le (Nat.lt_succ_of_lt hb) hbg))).trans (h.block b hb hn)⟩)
              have X09:=Hd ((HK9.out _ (Array.getElem?_eq_some_iff.1 X07.out).1 (fun e=>by rw [← e] at hbg;exact Nat.lt_irrefl _ hbg)).trans X07.out)
              have HO9:=Hd hown9
              have HMP:=Hd (meas_push (K:=K) (L:=L1) (x:=x) (w:=way) (HKK.out a (fun e=>by rw [e] at hx;simp at hx)) (scan_some HSC.out).2.2.2.2)
              clear hown9 hat9 hg9
              go_roundg (measR K (updR L1 a ((L1 a).drop (k+1))) (x :: a :: way))
              case measure=>exact Nat.lt_of_lt_of_le HMP.out HMS.out
              case rel =>
               refine ⟨n1+1,updR L1 a ((L1 a).drop (k+1)),insR bg1 a,en1,x :: a :: way,Blk.Aside.intro ⟨?_,⟨L9.out,BG9.out,E9.out.le (Nat.le_succ _),hneq,LE9⟩,O9.out,X09.out,fun r L' b' e' h=>HG.out r L' b' e' (RingS.push HSC.out hin h),Nat.le_refl _,?_,?_,?_⟩⟩
               · unfold SR
                 rw [List.reverse_cons,List.length_append,List.map_append,List.length_reverse,List.length_cons]
                 exact HO9.out
               · have h1:=HMP.out
                 have h2:=HNB.out
                 omega
               · intro b hb
                 by_cases e:b=a
                 · subst e;exact HKK.out b (fun e=>by rw [e] at hx;simp at hx)
                 · unfold updR at hb;rw [if_neg e] at hb;exact HKK.out b hb
               · intro s hs
                 rcases List.mem_cons.1 hs with rfl|hs
                 · exact hxs
                 · exact HWS.out s hs
end Go.Proofs.YtaekdfcpbepepaaGreatDoor
