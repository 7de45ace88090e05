/- The document's own next: the token that begins at a place. -/
import Derived.Test.YtpkmbhnikilihaaGreatDoorQv37
set_option maxRecDepth 100000
set_option maxHeartbeats 8000000
namespace Go.Proofs.YtpkmbhnikilihaaGreatDoor
open Go.RowKit
theorem tnew_two (w:World) (o o':Obj):((w.alloc o).alloc o').heap[w.heap.size]? = some o∧((w.alloc o).alloc o').heap[w.heap.size+1]? = some o'∧Below w.heap.size w ((w.alloc o).alloc o'):=by
 have h2:=heap_alloc_last (w.alloc o) o'
 have e:(w.alloc o).heap.size=w.heap.size+1:=by simp
 rw [e] at h2
 have b1:Below w.heap.size w (w.alloc o):=(Below.refl _ _).alloc (Nat.le_refl _) _
 have b2:Below (w.alloc o).heap.size (w.alloc o) ((w.alloc o).alloc o'):=(Below.refl _ _).alloc (Nat.le_refl _) _
 exact ⟨(b2.block w.heap.size (by omega)).trans (heap_alloc_last w o),h2,b1.trans (b2.mono (by omega))⟩
theorem ret_tok3 {R:Ending→World→Prop} {fn:Func} {a:Act} {W:World} {k v:Value} {b:Nat} (hf:fn.results=#[.cell 4 70,.tmp 5,.tmp 6]) (h2:a.tmps.getD 4 undef=.pointer (some ⟨b,0,none⟩)) (hd:a.defers=[])
  (hc:W.heap[b]? = some (.cells #[k,v] 70 (0,0))) (hR:R (.returned (.tuple #[.agg #[k,v],a.tmps.getD 5 undef,a.tmps.getD 6 undef])) W):bodyPost Tryz.prog fn R .ret a W:=by
 have hl:(loadVar 70 ⟨b,0,none⟩).run Tryz.prog W=.ok (.agg #[k,v]) W:=
  run_loadVar_row W b 70 70 #[k,v] (0,0) _ hc Tryz.underlying70 rfl (by kernel_rfl)
 refine bodyPost_ret ?_ hd hR
 have h2':a.tmps[4]?.getD undef=.pointer (some ⟨b,0,none⟩):=by rw [← h2];simp
 simp [results,hf,h2',asAddr,hl]
def NextTo (i:Nat) (o:Option ((Int × List UInt8) × Nat)) (e:Ending):Prop:=
 match o with
 | some p=>e=.returned (.tuple #[.agg #[.int .i64 p.1.1,.string ⟨p.1.2.toArray⟩],.int .i64 ((i+p.2:Nat):Int),.bool true])
 | none=>∃ (a:Int) (b:ByteArray) (k:Int),e=.returned (.tuple #[.agg #[.int .i64 a,.string b],.int .i64 k,.bool false])
theorem rq_mark_dots {l:List UInt8} (h:pre [46,46,46] l=true):markN l=3:=by
 cases l with
 | nil=>cases h
 | cons b t=>rw [markN,if_pos h]
theorem rq_tok_dots {l:List UInt8} (h:pre [46,46,46] l=true):tokL l=some ((1,[46,46,46]),3):=by
 have h3:l.take 3=[46,46,46]:=by
  unfold pre at h
  rw [List.isPrefixOf_iff_prefix] at h
  obtain ⟨t,rfl⟩:=h
  rfl
 rw [tokL,rq_mark_dots h,if_pos (by decide),h3]
theorem rq_tok_mark {b:UInt8} {t:List UInt8} (h:pre [46,46,46] (b :: t)=false) (hm:isMark b=true):tokL (b :: t)=some ((1,[b]),1):=by
 have e:markN (b :: t)=1:=by rw [markN,h,hm];rfl
 rw [tokL,e,if_pos (by decide)];rfl
theorem rq_mark_zero {b:UInt8} {t:List UInt8} (h:pre [46,46,46] (b :: t)=false) (hm:isMark b=false):markN (b :: t)=0:=by rw [markN,h,hm];rfl
theorem rq_num_zero {b:UInt8} {t:List UInt8} (h:b=34):(nbL (b :: t)).1=0:=by
 subst h
 have:nmL (34 :: t)=(0,0):=by
  unfold nmL
  have e:minusL (34 :: t)=0:=rfl
  rw [e,List.drop_zero]
  have e2:wholeL (34 :: t)=0:=by
   rw [wholeL,if_neg (by decide),runL,List.takeWhile_cons,if_neg (by decide)];rfl
  rw [e2,if_pos rfl]
 rw [nbL,this];rfl
theorem rq_word_zero {b:UInt8} {t:List UInt8} (h:letU b=false):wordN (b :: t)=0:=by rw [wordN,h];rfl
theorem rq_tok_block {b:UInt8} {t:List UInt8} (h:b=34) (hp:pre [34,34,34] (b :: t)=true):tokL (b :: t)=(rawL ((b :: t).drop 3)).map fun q=>((5,Blk.valueL q.1),3+q.2):=by
 have h1:pre [46,46,46] (b :: t)=false:=by subst h;rfl
 have h2:isMark b=false:=by subst h;decide
 have h3:letU b=false:=by subst h;decide
 rw [tokL,rq_mark_zero h1 h2,rq_word_zero h3,rq_num_zero h]
 simp only [ne_eq,not_true_eq_false,if_false]
 rw [quoteL,if_pos hp,Option.map_map]
 rfl
theorem rq_tok_quote {b:UInt8} {t:List UInt8} (h:b=34) (hp:pre [34,34,34] (b :: t)=false):tokL (b :: t)=(lineL t).map fun q=>((5,q.1),1+q.2):=by
 have h1:pre [46,46,46] (b :: t)=false:=by subst h;rfl
 have h2:isMark b=false:=by subst h;decide
 have h3:letU b=false:=by subst h;decide
 rw [tokL,rq_mark_zero h1 h2,rq_word_zero h3,rq_num_zero h]
 simp only [ne_eq,not_true_eq_false,if_false]
 rw [quoteL,hp,if_neg (by decide),if_pos (by subst h;decide),Option.map_map]
 rfl
theorem rq_tok_word {b:UInt8} {t:List UInt8} (h1:pre [46,46,46] (b :: t)=false) (h2:isMark b=false) (h3:letU b=true):tokL (b :: t)=some ((2,(b :: t).take ((b :: t).takeWhile nameU).length),((b :: t).takeWhile nameU).length):=by
 have e:wordN (b :: t)=((b :: t).takeWhile nameU).length:=by
  rw [wordN,if_pos h3,List.takeWhile_cons,if_pos (by simp [nameU,h3]),List.length_cons];omega
 have hne:wordN (b :: t) ≠ 0:=by rw [wordN,if_pos h3];omega
 rw [tokL,rq_mark_zero h1 h2]
 simp only [ne_eq,not_true_eq_false,if_false]
 rw [if_pos hne,e]
theorem rq_tok_num {b:UInt8} {t:List UInt8} (h1:pre [46,46,46] (b :: t)=false) (h2:isMark b=false) (h3:letU b=false) (h4:b ≠ 34):tokL (b :: t)=if (nbL (b :: t)).1 ≠ 0 then some (((nbL (b :: t)).2,(b :: t).take (nbL (b :: t)).1),(nbL (b :: t)).1) else none:=by
 rw [tokL,rq_mark_zero h1 h2,rq_word_zero h3]
 simp only [ne_eq,not_true_eq_false,if_false]
 split
 · rfl
 · have hp:pre [34,34,34] (b :: t)=false:=by
    cases hp:pre [34,34,34] (b :: t) with
    | false=>rfl
    | true=>exact absurd (by unfold pre at hp;simp at hp;exact hp.1.symm) h4
   rw [quoteL,hp,if_neg (by decide),if_neg (by simpa using h4)];rfl
theorem rq_pre_first {b:UInt8} {t:List UInt8} (h:pre [34,34,34] (b :: t)=true):b=34:=by
 unfold pre at h;simp at h;exact h.1.symm
theorem ext_midT (s:ByteArray) (a c E:Nat) (h:a+c=E):(s.extract a E).data.toList=(s.data.toList.drop a).take c:=by
 subst h
 simp [ByteArray.data_extract,Array.toList_extract,List.extract]
theorem rq_next_ret {y:ByteArray} {k:Int} {i n:Nat} {m:Int} {l:List UInt8} (hx:(⟨l.toArray⟩:ByteArray)=y) (h:((i+n:Nat):Int)=m):NextTo i (some ((k,l),n)) (.returned (.tuple #[.agg #[.int .i64 k,.string y],.int .i64 m,.bool true])):=by rw [← hx,← h];rfl
abbrev tokZ:Obj:=.cells #[.int .i64 0,.string ⟨#[]⟩] 70
theorem rnext_any (s : ByteArray) (i:Nat) (w:World) (hs:s.size≤9000) (hi:i < s.size) (hg:goodB s.data.toList=true) :
   Calls Tryz.prog 102 #[.string s,.int .i64 i] w fun e w'=>NextTo i (tokL (s.data.toList.drop i)) e∧Below w.heap.size w w':=by
 obtain ⟨h0,h1,hb0⟩:=tnew_two w tokZ tokZ
 have H0:=Hd h0
 have H1:=Hd h1
 have HB0:=Hd hb0
 obtain ⟨z0,z1,zf0,zf1⟩:=tok_cells h0
 obtain ⟨y0,y1,yf0,yf1⟩:=tok_cells h1
 have HD:=fun w=>Hd (rbegins_any s ⟨#[46,46,46]⟩ i w hs (by show 3≤9000;omega) (by omega))
 have HQ:=fun w=>Hd (rbegins_any s ⟨#[34,34,34]⟩ i w hs (by show 3≤9000;omega) (by omega))
 have HI:=fun w=>Hd (rindex_marks s[i] w)
 have hdr:=drop_at s i hi
 have hi0:(0:Int)≤(i:Int):=by omega
 have hi':(i:Int) < (s.size:Int):=by omega
 clear h0 h1 hb0
 cases hd:pre [46,46,46] (s.data.toList.drop i)
 · rw [show pre (⟨#[46,46,46]⟩:ByteArray).data.toList (s.data.toList.drop i)=false from hd] at HD
   cases hmk:isMark s[i]
   · cases hq:pre [34,34,34] (s.data.toList.drop i)
     · rw [show pre (⟨#[34,34,34]⟩:ByteArray).data.toList (s.data.toList.drop i)=false from hq] at HQ
       by_cases h34:s[i]=34
       · have e34:((s[i].toNat:Int) == 34)=true:=by rw [h34];rfl
         have hv:=rq_tok_quote (t:=s.data.toList.drop (i+1)) h34 (by rw [← hdr];exact hq)
         rw [← hdr] at hv
         have HL:=fun w=>Hd (rquoted_any s (i+1) w hs (by omega) (good_at hg hi (by rw [h34];decide)))
         have c1:((i+1:Nat):Int)=(i:Int)+1:=by omega
         rw [c1] at HL
         cases hl:lineL (s.data.toList.drop (i+1)) with
         | none =>
           rw [hl] at HL hv
           have HV:=Hd hv
           have hmk':=Hd hmk
           rw [show qV [] (i+1) none=.tuple #[.string ⟨#[]⟩,.int .i64 0,.bool false] from rfl] at HL
           clear hv hl hdr hd hq h34
           go_enter Tryz.func102,Tryz.ntmps102
           go_wp2_with fail
           refine (HD _).out.mono ?_
           rintro e w1 ⟨rfl,rfl⟩
           go_wp2_with fail
           refine (HI _).out.mono ?_
           rintro e w1 ⟨r,rfl,hr,rfl⟩
           have hr0 : ¬ r ≥ 0:=by
             rw [hmk] at hr
             simpa using hr
           clear hr HI
           go_wp2_with fail
           refine (HQ _).out.mono ?_
           rintro e w1 ⟨rfl,rfl⟩
           go_wp2_with fail
           refine (HL _).out.mono ?_
           rintro e w2 ⟨rfl,hb2⟩
           have B0:=Hd ((hb2.block w.heap.size (by simp;omega)).trans H0.out)
           have BB:=Hd (HB0.out.trans (hb2.mono (by simp;omega)))
           obtain ⟨z0,z1,zf0,zf1⟩:=tok_cells B0.out
           clear hb2 HL
           go_wp2_with fail
           refine ret_tok3 rfl rfl rfl (tok_set B0.out) ⟨?_,(BB.out.setCell (Nat.le_refl _) _).setCell (Nat.le_refl _) _⟩
           rw [HV.out]
           exact ⟨_,_,_,rfl⟩
         | some q =>
           rw [hl] at HL hv
           have HV:=Hd hv
           have hmk':=Hd hmk
           obtain ⟨X,hX⟩:∃ X:ByteArray,(⟨q.1.toArray⟩:ByteArray)=X:=⟨_,rfl⟩
           rw [show qV [] (i+1) (some q)=.tuple #[.string X,.int .i64 ((i+1+q.2:Nat):Int),.bool true] by rw [← hX];rfl] at HL
           obtain ⟨E,hE⟩:∃ E,i+1+q.2=E:=⟨_,rfl⟩
           rw [hE] at HL
           have HX:=Hd hX
           have HE:=Hd hE
           clear hv hl hdr hd hq h34 hX hE
           go_enter Tryz.func102,Tryz.ntmps102
           go_wp2_with fail
           refine (HD _).out.mono ?_
           rintro e w1 ⟨rfl,rfl⟩
           go_wp2_with fail
           refine (HI _).out.mono ?_
           rintro e w1 ⟨r,rfl,hr,rfl⟩
           have hr0 : ¬ r ≥ 0:=by
             rw [hmk] at hr
             simpa using hr
           clear hr HI
           go_wp2_with fail
           refine (HQ _).out.mono ?_
           rintro e w1 ⟨rfl,rfl⟩
           go_wp2_with fail
           refine (HL _).out.mono ?_
           rintro e w2 ⟨rfl,hb2⟩
           have B0:=Hd ((hb2.block w.heap.size (by simp;omega)).trans H0.out)
           have BB:=Hd (HB0.out.trans (hb2.mono (by simp;omega)))
           obtain ⟨z0,z1,zf0,zf1⟩:=tok_cells B0.out
           clear hb2 HL
           go_wp2_with fail
           refine ret_tok3 rfl rfl rfl (tok_set B0.out) ⟨?_,(BB.out.setCell (Nat.le_refl _) _).setCell (Nat.le_refl _) _⟩
           rw [HV.out]
           exact rq_next_ret HX.out (by have:=HE.out;omega)
       · have e34:((s[i].toNat:Int) == 34)=false:=ne_byteT (n:=34) (by omega) h34
         cases hlet:letU s[i]
         · -- a number,or nothing
           have HS:=fun w=>Hd (start_any (s[i].toNat:Int) w)
           rw [show letB (s[i].toNat:Int)=false from hlet] at HS
           have hv:=rq_tok_num (t:=s.data.toList.drop (i+1)) (by rw [← hdr];exact hd) hmk hlet h34
           rw [← hdr] at hv
           have HN:=fun w=>Hd (rnumeral_any (s.extract i s.size) w (by rw [ext_size];omega))
           rw [ext_data] at HN
           obtain ⟨n,hn⟩:∃ n,(nmL (s.data.toList.drop i)).1=n:=⟨_,rfl⟩
           obtain ⟨kd,hkd⟩:∃ kd,(nmL (s.data.toList.drop i)).2=kd:=⟨_,rfl⟩
           have hnl:=numeralL_le (s.data.toList.drop i)
           rw [List.length_drop,len_data,hn] at hnl
           rw [hn,hkd] at HN
           have hnum:nbL (s.data.toList.drop i)=if n=0 then (0,0) else if behindB (s.data.toList.drop (i+n)) then (0,0) else (n,kd):=by
             rw [nbL,hn,List.drop_drop,← hn,← hkd]
           have hmk':=Hd hmk
           by_cases hn0:n=0
           · have en:((n:Int) == 0)=true:=by simp;omega
             have HV:Hid (tokL (s.data.toList.drop i)=none):=Hd (by rw [hv,hnum,if_pos hn0];rfl)
             clear hv hnum hdr hd hq h34 hlet hn hkd
             go_enter Tryz.func102,Tryz.ntmps102
             go_wp2_with fail
             refine (HD _).out.mono ?_
             rintro e w1 ⟨rfl,rfl⟩
             go_wp2_with fail
             refine (HI _).out.mono ?_
             rintro e w1 ⟨r,rfl,hr,rfl⟩
             have hr0 : ¬ r ≥ 0:=by
               rw [hmk] at hr
               simpa using hr
             clear hr HI
             go_wp2_with fail
             refine (HQ _).out.mono ?_
             rintro e w1 ⟨rfl,rfl⟩
             go_wp2_with fail
             refine (HS _).out.mono ?_
             rintro e w1 ⟨rfl,rfl⟩
             go_wp2_with fail
             refine (HN _).out.mono ?_
             rintro e w1 ⟨rfl,rfl⟩
             go_wp2_with fail
             refine ret_tok3 rfl rfl rfl (tnew_two _ _ _).1 ⟨?_,(tnew_two _ _ _).2.2⟩
             rw [HV.out]
             exact ⟨_,_,_,rfl⟩
           · have en : ((n:Int) == 0)=false:=by simp;omega
             obtain ⟨E,hE⟩:∃ E,i+n=E:=⟨_,rfl⟩
             have gE:(i:Int)+(n:Int)=(E:Int):=by omega
             have g0:(0:Int)≤(E:Int):=by omega
             have g2:(i:Int)≤(E:Int):=by omega
             have g3:(E:Int)≤(s.size:Int):=by omega
             rw [hE] at hnum
             have HX:Hid ((⟨((s.data.toList.drop i).take n).toArray⟩:ByteArray)=s.extract i E):=Hd (mk_of (ext_midT s i n E hE))
             have HE:=Hd hE
             rw [if_neg hn0] at hnum
             have YES:behindB (s.data.toList.drop E)=false→tokL (s.data.toList.drop i)=some ((kd,(s.data.toList.drop i).take n),n):=fun hbh=>by
               rw [hv,hnum,hbh]
               simp [hn0]
             have NOT:behindB (s.data.toList.drop E)=true→tokL (s.data.toList.drop i)=none:=fun hbh=>by
               rw [hv,hnum,hbh]
               simp
             clear hv hnum hd hq hdr
             by_cases hEl:E < s.size
             · have hEl':(E:Int) < (s.size:Int):=by omega
               have hdE:=drop_at s E hEl
               have HSE:=fun w=>Hd (start_any (s[E].toNat:Int) w)
               have HDE:=fun w=>Hd (rdigit_any (s[E].toNat:Int) w)
               cases hle:letB (s[E].toNat:Int)
               · cases hde:digB (s[E].toNat:Int)
                 · rw [hle] at HSE
                   rw [hde] at HDE
                   by_cases h46:s[E]=46
                   · have e46:((s[E].toNat:Int) == 46)=true:=by rw [h46];rfl
                     have HV:=Hd (NOT (by rw [hdE,h46];rfl))
                     clear YES NOT hdE h46 hlet hn hkd h34 hle hde
                     go_enter Tryz.func102,Tryz.ntmps102
                     go_wp2_with fail
                     refine (HD _).out.mono ?_
                     rintro e w1 ⟨rfl,rfl⟩
                     go_wp2_with fail
                     refine (HI _).out.mono ?_
                     rintro e w1 ⟨r,rfl,hr,rfl⟩
                     have hr0 : ¬ r ≥ 0:=by
                      rw [hmk] at hr
                      simpa using hr
                     clear hr HI
                     go_wp2_with fail
                     refine (HQ _).out.mono ?_
                     rintro e w1 ⟨rfl,rfl⟩
                     go_wp2_with fail
                     refine (HS _).out.mono ?_
                     rintro e w1 ⟨rfl,rfl⟩
                     go_wp2_with fail
                     refine (HN _).out.mono ?_
                     rintro e w1 ⟨rfl,rfl⟩
                     go_wp2_with fail
                     refine (HSE _).out.mono ?_
                     rintro e w1 ⟨rfl,rfl⟩
                     go_wp2_with fail
                     refine (HDE _).out.mono ?_
                     rintro e w1 ⟨rfl,rfl⟩
                     go_wp2_with fail
                     refine ret_tok3 rfl rfl rfl (tnew_two _ _ _).1 ⟨?_,(tnew_two _ _ _).2.2⟩
                     rw [HV.out]
                     exact ⟨_,_,_,rfl⟩
                   · have e46:((s[E].toNat:Int) == 46)=false:=ne_byteT (n:=46) (by omega) h46
                     have HV:=Hd (YES (by rw [hdE];simp [behindB,digU,letU,hle,hde,h46]))
                     clear YES NOT hdE h46 hlet hn hkd h34 hle hde
                     go_enter Tryz.func102,Tryz.ntmps102
                     go_wp2_with fail
                     refine (HD _).out.mono ?_
                     rintro e w1 ⟨rfl,rfl⟩
                     go_wp2_with fail
                     refine (HI _).out.mono ?_
                     rintro e w1 ⟨r,rfl,hr,rfl⟩
                     have hr0 : ¬ r ≥ 0:=by
                      rw [hmk] at hr
                      simpa using hr
                     clear hr HI
                     go_wp2_with fail
                     refine (HQ _).out.mono ?_
                     rintro e w1 ⟨rfl,rfl⟩
                     go_wp2_with fail
                     refine (HS _).out.mono ?_
                     rintro e w1 ⟨rfl,rfl⟩
                     go_wp2_with fail
                     refine (HN _).out.mono ?_
                     rintro e w1 ⟨rfl,rfl⟩
                     go_wp2_with fail
                     refine (HSE _).out.mono ?_
                     rintro e w1 ⟨rfl,rfl⟩
                     go_wp2_with fail
                     refine (HDE _).out.mono ?_
                     rintro e w1 ⟨rfl,rfl⟩
                     go_wp2_with fail
                     refine ret_tok3 rfl rfl rfl (tnew_two _ _ _).1 ⟨?_,(tnew_two _ _ _).2.2⟩
                     rw [HV.out]
                     exact rq_next_ret HX.out (by have:=HE.out;omega)
                 · rw [hle] at HSE
                   rw [hde] at HDE
                   have HV:=Hd (NOT (by rw [hdE];simp [behindB,digU,hde]))
                   clear YES NOT hdE hlet hn hkd h34 hle hde
                   go_enter Tryz.func102,Tryz.ntmps102
                   go_wp2_with fail
                   refine (HD _).out.mono ?_
                   rintro e w1 ⟨rfl,rfl⟩
                   go_wp2_with fail
                   refine (HI _).out.mono ?_
                   rintro e w1 ⟨r,rfl,hr,rfl⟩
                   have hr0 : ¬ r ≥ 0:=by
                     rw [hmk] at hr
                     simpa using hr
                   clear hr HI
                   go_wp2_with fail
                   refine (HQ _).out.mono ?_
                   rintro e w1 ⟨rfl,rfl⟩
                   go_wp2_with fail
                   refine (HS _).out.mono ?_
                   rintro e w1 ⟨rfl,rfl⟩
                   go_wp2_with fail
                   refine (HN _).out.mono ?_
                   rintro e w1 ⟨rfl,rfl⟩
                   go_wp2_with fail
                   refine (HSE _).out.mono ?_
                   rintro e w1 ⟨rfl,rfl⟩
                   go_wp2_with fail
                   refine (HDE _).out.mono ?_
                   rintro e w1 ⟨rfl,rfl⟩
                   go_wp2_with fail
                   refine ret_tok3 rfl rfl rfl (tnew_two _ _ _).1 ⟨?_,(tnew_two _ _ _).2.2⟩
                   rw [HV.out]
                   exact ⟨_,_,_,rfl⟩
               · rw [hle] at HSE
                 have HV:=Hd (NOT (by rw [hdE];simp [behindB,letU,hle]))
                 clear YES NOT hdE hlet hn hkd h34 hle
                 go_enter Tryz.func102,Tryz.ntmps102
                 go_wp2_with fail
                 refine (HD _).out.mono ?_
                 rintro e w1 ⟨rfl,rfl⟩
                 go_wp2_with fail
                 refine (HI _).out.mono ?_
                 rintro e w1 ⟨r,rfl,hr,rfl⟩
                 have hr0 : ¬ r ≥ 0:=by
                   rw [hmk] at hr
                   simpa using hr
                 clear hr HI
                 go_wp2_with fail
                 refine (HQ _).out.mono ?_
                 rintro e w1 ⟨rfl,rfl⟩
                 go_wp2_with fail
                 refine (HS _).out.mono ?_
                 rintro e w1 ⟨rfl,rfl⟩
                 go_wp2_with fail
                 refine (HN _).out.mono ?_
                 rintro e w1 ⟨rfl,rfl⟩
                 go_wp2_with fail
                 refine (HSE _).out.mono ?_
                 rintro e w1 ⟨rfl,rfl⟩
                 go_wp2_with fail
                 refine ret_tok3 rfl rfl rfl (tnew_two _ _ _).1 ⟨?_,(tnew_two _ _ _).2.2⟩
                 rw [HV.out]
                 exact ⟨_,_,_,rfl⟩
             · have hEl' : ¬ (E:Int) < (s.size:Int):=by omega
               have HV:=Hd (YES (by rw [drop_all s E (by omega)];rfl))
               clear YES NOT hlet hn hkd h34
               go_enter Tryz.func102,Tryz.ntmps102
               go_wp2_with fail
               refine (HD _).out.mono ?_
               rintro e w1 ⟨rfl,rfl⟩
               go_wp2_with fail
               refine (HI _).out.mono ?_
               rintro e w1 ⟨r,rfl,hr,rfl⟩
               have hr0 : ¬ r ≥ 0:=by
                 rw [hmk] at hr
                 simpa using hr
               clear hr HI
               go_wp2_with fail
               refine (HQ _).out.mono ?_
               rintro e w1 ⟨rfl,rfl⟩
               go_wp2_with fail
               refine (HS _).out.mono ?_
               rintro e w1 ⟨rfl,rfl⟩
               go_wp2_with fail
               refine (HN _).out.mono ?_
               rintro e w1 ⟨rfl,rfl⟩
               go_wp2_with fail
               refine ret_tok3 rfl rfl rfl (tnew_two _ _ _).1 ⟨?_,(tnew_two _ _ _).2.2⟩
               rw [HV.out]
               exact rq_next_ret HX.out (by have:=HE.out;omega)
         · -- a word
           have HS:=fun w=>Hd (start_any (s[i].toNat:Int) w)
           rw [show letB (s[i].toNat:Int)=true from hlet] at HS
           have hv:=rq_tok_word (t:=s.data.toList.drop (i+1)) (by rw [← hdr];exact hd) hmk hlet
           rw [← hdr] at hv
           obtain ⟨n,hn⟩:∃ n,((s.data.toList.drop i).takeWhile nameU).length=n:=⟨_,rfl⟩
           rw [hn] at hv
           have hnl:n≤s.size - i:=by
             have:=takeWhile_le nameU (s.data.toList.drop i)
             rw [hn,List.length_drop,len_data] at this
             exact this
           obtain ⟨E,hE⟩:∃ E,i+n=E:=⟨_,rfl⟩
           have g2:(i:Int)≤(E:Int):=by omega
           have g3:(E:Int)≤(s.size:Int):=by omega
           have HX:Hid ((⟨((s.data.toList.drop i).take n).toArray⟩:ByteArray)=s.extract i E):=Hd (mk_of (ext_midT s i n E hE))
           have HE:=Hd hE
           have HV:=Hd hv
           have HNn:=Hd hn
           have hmk':=Hd hmk
           clear hv hdr hd hq h34 hlet hn hE
           go_enter Tryz.func102,Tryz.ntmps102
           go_wp2_with fail
           refine (HD _).out.mono ?_
           rintro e w1 ⟨rfl,rfl⟩
           go_wp2_with fail
           refine (HI _).out.mono ?_
           rintro e w1 ⟨r,rfl,hr,rfl⟩
           have hr0 : ¬ r ≥ 0:=by
             rw [hmk] at hr
             simpa using hr
           clear hr HI
           go_wp2_with fail
           refine (HQ _).out.mono ?_
           rintro e w1 ⟨rfl,rfl⟩
           go_wp2_with fail
           refine (HS _).out.mono ?_
           rintro e w1 ⟨rfl,rfl⟩
           clear HS HQ HD hr0
           go_wp2_with fail
           go_loopg [14] (s.size - i) (fun g jv wx=>∃ j:Nat,i≤j∧j+g=s.size∧jv=.int .i64 j∧Aside (j - i≤((s.data.toList.drop i).takeWhile nameU).length)∧wx=(w.alloc tokZ).alloc tokZ)
           case atStart=>exact ⟨i,Nat.le_refl _,by omega,rfl,Aside.intro (by omega),rfl⟩
           case round =>
             obtain ⟨j,hij,hjg,rfl,HJ,rfl⟩:=hrel
             have hj0:(0:Int)≤(j:Int):=by omega
             by_cases hjl:j < s.size
             · have hjl':(j:Int) < (s.size:Int):=by omega
               have hat:(s.data.toList.drop i)[j - i]? = some s[j]:=by
                 rw [List.getElem?_drop,show i+(j - i)=j by omega];exact data_atT s j hjl
               have HSE:=fun w=>Hd (start_any (s[j].toNat:Int) w)
               have HDE:=fun w=>Hd (rdigit_any (s[j].toNat:Int) w)
               cases hle:letB (s[j].toNat:Int)
               · cases hde:digB (s[j].toNat:Int)
                 · obtain rfl:j=E:=by
                     have h1:=twT_stop HJ.out hat (by simp [nameU,letU,digU,hle,hde])
                     have h2:=HNn.out
                     have h3:=HE.out
                     omega
                   rw [hle] at HSE
                   rw [hde] at HDE
                   clear HJ hat hle hde
                   go_wp2_with fail
                   refine (HSE _).out.mono ?_
                   rintro e w1 ⟨rfl,rfl⟩
                   go_wp2_with fail
                   refine (HDE _).out.mono ?_
                   rintro e w1 ⟨rfl,rfl⟩
                   go_wp2_with fail
                   refine ret_tok3 rfl rfl rfl (tnew_two _ _ _).1 ⟨?_,(tnew_two _ _ _).2.2⟩
                   rw [HV.out]
                   exact rq_next_ret HX.out (by have:=HE.out;omega)
                 · have hnx:=Hd (twT_next HJ.out hat (by simp [nameU,digU,hde]))
                   rw [hle] at HSE
                   rw [hde] at HDE
                   clear HJ hat hle hde
                   go_wp2_with fail
                   refine (HSE _).out.mono ?_
                   rintro e w1 ⟨rfl,rfl⟩
                   go_wp2_with fail
                   refine (HDE _).out.mono ?_
                   rintro e w1 ⟨rfl,rfl⟩
                   go_wp2_with fail
                   go_roundg (gk - 1)
                   case measure=>omega
                   case rel=>exact ⟨j+1,by omega,by omega,by go_num,Aside.intro (by have:=hnx.out;omega),rfl⟩
               · have hnx:=Hd (twT_next HJ.out hat (by simp [nameU,letU,hle]))
                 rw [hle] at HSE
                 clear HJ hat hle
                 go_wp2_with fail
                 refine (HSE _).out.mono ?_
                 rintro e w1 ⟨rfl,rfl⟩
                 go_wp2_with fail
                 go_roundg (gk - 1)
                 case measure=>omega
                 case rel=>exact ⟨j+1,by omega,by omega,by go_num,Aside.intro (by have:=hnx.out;omega),rfl⟩
             · obtain rfl:j=E:=by
                 have h1:=twT_end HJ.out (by rw [List.length_drop,len_data];omega)
                 have h2:=HNn.out
                 have h3:=HE.out
                 omega
               have hjl' : ¬ (j:Int) < (s.size:Int):=by omega
               clear HJ
               go_wp2_with fail
               refine ret_tok3 rfl rfl rfl (tnew_two _ _ _).1 ⟨?_,(tnew_two _ _ _).2.2⟩
               rw [HV.out]
               exact rq_next_ret HX.out (by have:=HE.out;omega)
     · rw [show pre (⟨#[34,34,34]⟩:ByteArray).data.toList (s.data.toList.drop i)=true from hq] at HQ
       have h34:s[i]=34:=rq_pre_first (t:=s.data.toList.drop (i+1)) (by rw [← hdr];exact hq)
       have hv:=rq_tok_block (t:=s.data.toList.drop (i+1)) h34 (by rw [← hdr];exact hq)
       rw [← hdr,List.drop_drop] at hv
       have h3:i+3≤s.size:=by
         have:=pre_len hq
         rw [List.length_drop,len_data] at this
         simp at this
         omega
       have HL:=fun w=>Hd (rblocked_any s (i+3) w hs h3)
       have c1:((i+3:Nat):Int)=(i:Int)+3:=by omega
       rw [c1] at HL
       cases hl:rawL (s.data.toList.drop (i+3)) with
       | none =>
         rw [hl] at HL hv
         have HV:=Hd hv
         have hmk':=Hd hmk
         rw [show bV [] (i+3) none=.tuple #[.string ⟨#[]⟩,.int .i64 0,.bool false] from rfl] at HL
         clear hv hl hdr hd hq h34
         go_enter Tryz.func102,Tryz.ntmps102
         go_wp2_with fail
         refine (HD _).out.mono ?_
         rintro e w1 ⟨rfl,rfl⟩
         go_wp2_with fail
         refine (HI _).out.mono ?_
         rintro e w1 ⟨r,rfl,hr,rfl⟩
         have hr0 : ¬ r ≥ 0:=by
           rw [hmk] at hr
           simpa using hr
         clear hr HI
         go_wp2_with fail
         refine (HQ _).out.mono ?_
         rintro e w1 ⟨rfl,rfl⟩
         go_wp2_with fail
         refine (HL _).out.mono ?_
         rintro e w2 ⟨rfl,hb2⟩
         have B0:=Hd ((hb2.block w.heap.size (by simp;omega)).trans H0.out)
         have BB:=Hd (HB0.out.trans (hb2.mono (by simp;omega)))
         obtain ⟨z0,z1,zf0,zf1⟩:=tok_cells B0.out
         clear hb2 HL
         go_wp2_with fail
         refine ret_tok3 rfl rfl rfl (tok_set B0.out) ⟨?_,(BB.out.setCell (Nat.le_refl _) _).setCell (Nat.le_refl _) _⟩
         rw [HV.out]
         exact ⟨_,_,_,rfl⟩
       | some q =>
         rw [hl] at HL hv
         have HV:=Hd hv
         have hmk':=Hd hmk
         obtain ⟨X,hX⟩:∃ X:ByteArray,(⟨(Blk.valueL q.1).toArray⟩:ByteArray)=X:=⟨_,rfl⟩
         rw [show bV [] (i+3) (some q)=.tuple #[.string X,.int .i64 ((i+3+q.2:Nat):Int),.bool true] by rw [← hX];rfl] at HL
         obtain ⟨E,hE⟩:∃ E,i+3+q.2=E:=⟨_,rfl⟩
         rw [hE] at HL
         have HX:=Hd hX
         have HE:=Hd hE
         clear hv hl hdr hd hq h34 hX hE
         go_enter Tryz.func102,Tryz.ntmps102
         go_wp2_with fail
         refine (HD _).out.mono ?_
         rintro e w1 ⟨rfl,rfl⟩
         go_wp2_with fail
         refine (HI _).out.mono ?_
         rintro e w1 ⟨r,rfl,hr,rfl⟩
         have hr0 : ¬ r ≥ 0:=by
           rw [hmk] at hr
           simpa using hr
         clear hr HI
         go_wp2_with fail
         refine (HQ _).out.mono ?_
         rintro e w1 ⟨rfl,rfl⟩
         go_wp2_with fail
         refine (HL _).out.mono ?_
         rintro e w2 ⟨rfl,hb2⟩
         have B0:=Hd ((hb2.block w.heap.size (by simp;omega)).trans H0.out)
         have BB:=Hd (HB0.out.trans (hb2.mono (by simp;omega)))
         obtain ⟨z0,z1,zf0,zf1⟩:=tok_cells B0.out
         clear hb2 HL
         go_wp2_with fail
         refine ret_tok3 rfl rfl rfl (tok_set B0.out) ⟨?_,(BB.out.setCell (Nat.le_refl _) _).setCell (Nat.le_refl _) _⟩
         rw [HV.out]
         exact rq_next_ret HX.out (by have:=HE.out;omega)
   · have hv:=rq_tok_mark (t:=s.data.toList.drop (i+1)) (by rw [← hdr];exact hd) hmk
     rw [← hdr] at hv
     have HV:=Hd hv
     obtain ⟨E,hE⟩:∃ E,i+1=E:=⟨_,rfl⟩
     have gE:(i:Int)+1=(E:Int):=by omega
     have g2:(i:Int)≤(E:Int):=by omega
     have g3:(E:Int)≤(s.size:Int):=by omega
     have HX:Hid ((⟨[s[i]].toArray⟩:ByteArray)=s.extract i E):=Hd (mk_of (by rw [← hE];exact one_text s i hi))
     have HE:=Hd hE
     clear hv hdr hd hE
     go_enter Tryz.func102,Tryz.ntmps102
     go_wp2_with fail
     refine (HD _).out.mono ?_
     rintro e w1 ⟨rfl,rfl⟩
     go_wp2_with fail
     refine (HI _).out.mono ?_
     rintro e w1 ⟨r,rfl,hr,rfl⟩
     have hr0:r ≥ 0:=by
       rw [hmk] at hr
       simpa using hr
     clear hr HI
     go_wp2_with fail
     refine ret_tok3 rfl rfl rfl (tnew_two _ _ _).1 ⟨?_,(tnew_two _ _ _).2.2⟩
     rw [HV.out]
     exact rq_next_ret HX.out (by have:=HE.out;omega)
 · rw [show pre (⟨#[46,46,46]⟩:ByteArray).data.toList (s.data.toList.drop i)=true from hd] at HD
   have HV:=Hd (rq_tok_dots hd)
   clear hdr hd
   go_enter Tryz.func102,Tryz.ntmps102
   go_wp2_with fail
   refine (HD _).out.mono ?_
   rintro e w1 ⟨rfl,rfl⟩
   go_wp2_with fail
   refine ret_tok3 rfl rfl rfl (tnew_two _ _ _).1 ⟨?_,(tnew_two _ _ _).2.2⟩
   rw [HV.out]
   exact rq_next_ret rfl (by omega)
end Go.Proofs.YtpkmbhnikilihaaGreatDoor
